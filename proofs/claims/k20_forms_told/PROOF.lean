import PyProof.Rows.All
import Wide.All
import OpenK.AllK
import Wide.FinOn
import PyProof.EqAt
import PyProof.EqKinds
import PyProof.TupleCall
import Lean
import KE.KNestM
import PyProof.NeKinds
import PyProof.NeData
import PyProof.FactsAll.dict
import PyProof.EnumFor
import PyProof.EnumMake
import PyProof.EnumStmt
import PyProof.DictList
import KE.KDictList
import PyProof.DictItems
import PyProof.DictWalks
import PyProof.DictRoadsH
import PyProof.SetRoads
import PyProof.SetNew
import PySem.SetOps
import PyProof.Rows.SetFrom
import PyProof.SetScanFacts
import KE.KDictSum
import KE.KSortTup
import KE.KItemsList
import PyProof.Rows.FactsT3
import PyProof.Rows.FactsT2
import PyProof.Rows.SortStr
import KE.LcSums
import PyProof.ConsumeWalk
import PyProof.Rows.MinMaxN
import PyProof.ListMulRoad
import PyProof.StrOps2
import PyProof.FitsBits
import PyProof.Rows.IntMath
import PyProof.ListRange
import KE.KRevIter
import PyProof.AttrMiss
import PyProof.IsiBase
import KE.KDictOf
import PyProof.Draws
import PyProof.TupleIter
import PyProof.AttrMissHeap
import PyProof.ZipIter
import PyProof.DictUpdate
import KE.KPairComp
import PyProof.DictValues
import PyProof.MinMaxWalk
import PyProof.WalkInts
import PyProof.Rows.CallKwBuiltin
import KE.KSortKey
import KE.KLam
import PySem.Challenge.RW_eachstepsame_k20_forms_told
open List (length_map mem_cons range replicate length_cons map_cons mem_map size_toArray length_nil all_eq_true lookup_cons mem_cons_of_mem mem_append append_assoc length_singleton nil_append mem_range take_length map_nil append_nil length_take cons_append mem_cons_self any_eq_true mem_singleton take_succ_cons length_append filterMap_cons nodup_cons length_drop forIn_cons take_add_one mem_filter mem_filterMap Pairwise range_succ toArray map_map take_zero map_append of_mem_zip foldl_cons any_cons mem_nil_iff forIn_nil not_mem_nil contains_cons foldl range' any_map map_take map_drop)
open Nat (zero_le le_succ lt_of_le_of_lt ne_of_lt not_lt_zero le_of_lt lt_trans sub_self le_of_eq succ_le_succ le_succ_of_le)
open Bool (and_eq_true false_eq_true)
open Array (length_toList getElem_toList toList_inj toList_map getD)
open Int (toNat_natCast emod_nonneg)
open Option (bind_some some getD_none isSome_map)
set_option genSizeOf false
set_option genSizeOfSpec false
set_option maxRecDepth 100000
set_option maxHeartbeats 0
set_option Elab.async false
set_option linter.all false
noncomputable def PySem.W.Fast.tw12347542494843424074:PySem.Program:=PySem.Challenge.pw_eachstepsame_k20_forms_told
def PySem.W.Fast.te12347542494843424074:PySem.Challenge.pw_eachstepsame_k20_forms_told=PySem.W.Fast.tw12347542494843424074:=rfl
namespace Op
open PySem PySem.W PyProof.Rows PySem.Calls
noncomputable section
noncomputable def de(P:Params)(k:Str)(t:Nat)(v:Value):DictEntry:=⟨PyData.keyHash P k,.str k t,v⟩
noncomputable def tu(l:List Value):Obj:=⟨.type "tuple",none,.seq ⟨l⟩ 0,⟨[]⟩⟩
noncomputable def co(l:List Value):Obj:=⟨.type "code",none,.fields ⟨l⟩,⟨[]⟩⟩
noncomputable def ob(c:Value)(d:Data):Obj:=⟨c,none,d,⟨[]⟩⟩
noncomputable def at_:List Stmt->Nat->Stmt
 |[],_=> .Pass ⟨0,0,0,0⟩
 |s::_,0=>s
 |_::l,n+1=>at_ l n
noncomputable def inC:Stmt->List Stmt
 | .ClassDef _ _ _ b .. =>b
 |_=>[]
noncomputable def fd(s:Stmt)(qn:Str)(g:Nat)(cl:List (Str×Nat))(df kd dc pm:Value)(an:Option Nat)(cd ct:Value)(bl:Nat):Data:=match s with
 | .FunctionDef n a b _ _ _ sc _ _ _=> .func ⟨n,qn,a,.stmts b,sc,g,cl,df,kd,dc,pm,an,cd,ct,bl⟩
 |_=> .plain
noncomputable def body:List Stmt:=PySem.Challenge.pw_eachstepsame_k20_forms_told.main.body
def q:Program:={PySem.Challenge.pw_eachstepsame_k20_forms_told with main:={PySem.Challenge.pw_eachstepsame_k20_forms_told.main with body:=((body.eraseIdx 12).eraseIdx 1)}}
def t0:Obj:=tu []
def dr(P:Params)(k:Str)(t r:Nat):DictEntry:=de P k t<|.ref r
def ds(P:Params)(k:Str)(t:Nat)(x:Str)(u:Nat):DictEntry:=de P k t<|.str x u
def dc(n:Nat)(l:List DictEntry):Obj:=ob (.type "dict")<|.dict ⟨l⟩ n
noncomputable def lf(o:Obj):BT:= .node o .nil .nil
def n7(a b c d e f g:Obj):BT:= .node a (.node b (lf c)<|lf d)<|.node e (lf f)<|lf g
def H0(a:Str)(b:Nat)(c:Int)(d:Nat)(e:Int):Obj:=co [.str a b,.str a<|b+1,.str "/claim/cut.py"<|b+2,.int c 0,.int 0 0,.int 0 0,.int 0 0,.int 0 0,.ref d,.bool false,.int 181 0,.ref<|d+1,.none,.none,.none,.none,.int e 0,.int c 0,.str "/claim/cut.py"<|b+4]
noncomputable def H1(a:Nat)(b:Nat)(c:Str)(d:Nat):Obj:=⟨.type "frame",none,.plain,⟨[some<|.ref a,some<|.ref 3,some<|.ref b,none,some<|.str c d,none,some<|.ref 0]⟩⟩
def H2(a:Str)(b:Nat):Obj:=tu [.str a b]
def H6(a:Str)(b:Nat)(c:Str)(d:Str)(e:Str)(f:Str):Obj:=tu [.str a b,.str c<|b+1,.str d<|b+2,.str e<|b+3,.str f<|b+4]
def H9(a:Str)(b:Nat)(c:Str)(d:Str):Obj:=tu [.str a b,.str c<|b+1,.str d<|b+2]
def H10(a:Str)(b:Nat)(c:Str)(d:Str)(e:Str):Obj:=tu [.str a b,.str c<|b+1,.str d<|b+2,.str e<|b+3]
noncomputable def H11(a:Str)(b:Nat)(c:Nat)(d:Nat):Obj:=⟨.type "type",none,.cls ⟨a,[.type "object"],[.ref b,.type "object"],c,a,true,[],[],false,none,false⟩,⟨[none,none,some<|.str a d,some<|.str a<|d+8,some<|.builtin "object.__new__",some<|.bool true]⟩⟩
def H12(a:Nat)(b:Nat):Obj:=ob (.type "getset_descriptor")<|.fields ⟨[.str "__dict__" a,.ref b,.builtin "function.__dict__",.builtin "function.__dict__#set"]⟩
def H13(a:Nat)(b:Nat):Obj:=ob (.type "getset_descriptor")<|.fields ⟨[.str "__weakref__" a,.ref b,.builtin "ExceptionGroup.__weakref__",.none]⟩
def H14(a:Nat):Obj:=ob (.type "super")<|.fields ⟨[.ref a,.ref a,.ref a]⟩
def H15(a:Nat):Obj:=ob (.type "builtin_function_or_method")<|.fields ⟨[.builtin "object.__init_subclass__",.ref a]⟩
def H16(P:Params)(a:Nat)(b:Str)(c:Int)(d:Str)(e:Nat)(f:Nat)(g:Str)(h:Nat)(i:Nat)(j:Str)(k:Nat)(l:Nat)(m:Str)(n:Nat)(o:Nat)(p:Nat):Obj:=dc 8 [ds P "__module__" a "eachstepsame.blocks" 194,ds P "__qualname__" (a+2) b<|a+1,de P "__firstlineno__" (a+4)<|.int c<|a+3,dr P d e f,dr P g h i,dr P j k l,dr P m n o,dr P "__static_attributes__" p<|o+1]
def H17(a:Int)(b:Nat)(c:Int)(d:Nat)(e:Int)(f:Nat)(g:Int)(h:Nat):Obj:=ob .none<|.fields ⟨[.int a 0,.int 4 0,.ref b,.int c 0,.int 4 0,.ref d,.int e 0,.int 4 0,.ref f,.int g 0,.int 4 0,.ref h]⟩
def H18(a:Str)(b:Nat)(c:Str):Obj:=tu [.str a b,.str c<|b+1]
def H19(P:Params)(a:Nat)(b:Nat)(c:Int)(d:Str)(e:Nat)(f:Nat)(g:Str)(h:Nat)(i:Nat)(j:Str)(k:Nat)(l:Nat)(m:Str)(n:Nat)(o:Nat)(p:Str)(q:Nat)(r:Nat)(s:Str)(t:Nat)(u:Nat)(v:Str)(w:Nat):Obj:=dc a [ds P "__module__" b "eachstepsame.blocks" 194,de P "__firstlineno__" (b+4)<|.int c<|b+3,dr P d e f,dr P g h i,dr P j k l,dr P m n o,dr P p q r,dr P s t u,dr P v w<|u+1,de P "__doc__" (w+1) .none]
noncomputable def H20(a:Str)(b:Nat)(c:Nat)(d:Nat)(e:Nat):Obj:=⟨.type "type",none,.cls ⟨a,[.ref 94],[.ref b,.ref 94,.type "object"],c,a,true,[],[],false,none,false⟩,⟨[some<|.ref d,none,some<|.str a e,some<|.str a<|e+8,some<|.builtin "object.__new__",some<|.bool true]⟩⟩
def H21(P:Params)(a:Nat)(b:Str)(c:Int)(d:Nat)(e:Nat)(f:Nat)(g:Nat)(h:Str)(i:Nat)(j:Nat)(k:Str)(l:Nat)(m:Nat)(n:Str)(o:Str)(p:Nat)(q:Nat):Obj:=dc 10 [ds P "__module__" a "eachstepsame.blocks" 194,ds P "__qualname__" (a+2) b<|a+1,de P "__firstlineno__" (a+4)<|.int c<|a+3,dr P "__init__" d e,dr P "told" f g,dr P h i j,dr P k l m,dr P n (l+8)<|m+7,dr P o p<|m+14,dr P "__static_attributes__" q<|m+15]
def H22(a:Int)(b:Nat)(c:Int)(d:Nat)(e:Int)(f:Nat)(g:Int)(h:Nat)(i:Int)(j:Int):Obj:=ob .none<|.fields ⟨[.int a 0,.int 4 0,.ref b,.int c 0,.int 4 0,.ref d,.int e 0,.int 4 0,.ref f,.int g 0,.int 4 0,.ref h,.int i 0,.int 4 0,.ref<|h+7,.int j 0,.int 4 0,.ref<|h+14]⟩
def o12a:=ob .none<|.fields ⟨[]⟩
def o13a:=H0 "<module>" 182 1 11 185
def o14a:=H1 13 3 "__main__" 164
def o3(P:Params):=dc 41 [ds P "__name__" 165 "law_eachstepsame_k20_forms_told" 771,de P "__doc__" 166 .none,de P "__package__" 167 .none,de P "__loader__" 168<|.builtin "__main__.__loader__#opaque",de P "__spec__" 169 .none,dr P "__annotations__" 170 6,dr P "__builtins__" 171 4,ds P "__file__" 173 "/claim/cut.py" 172,de P "__cached__" 174 .none,dr P "_wall" 193 21,dr P "Row" 246 52,dr P "End" 298 94,dr P "Jump" 354 143,dr P "Branch" 421 197,dr P "Back" 469 237,dr P "Raise" 510 270,dr P "Risk" 580 322,dr P "Block" 631 356,dr P "Function" 703 408,dr P "Code" 770 460,dr P "_law_cell_at" 780 471,dr P "_law_mixed" 789 478,dr P "_law_numbers" 801 485,dr P "_law_take" 808 492,dr P "_law_odd" 815 499,dr P "_law_operand" 821 504,dr P "_law_row_kinds" 833 511,dr P "_law_drawn_row" 839 516,dr P "_law_edge" 845 521,dr P "_law_end" 851 526,dr P "_law_backward" 857 531,dr P "_law_function" 863 536,dr P "_law_made_end" 870 543,dr P "_law_made" 876 548,dr P "_law_edges" 882 553,dr P "_law_reads" 889 560,dr P "_law_end_right" 903 567,dr P "_law_block_right" 909 572,dr P "_law_function_right" 915 577,dr P "_law_copies" 931 584,dr P "law" 937 589]
def o12:=ob .none<|.fields ⟨[.int 1 0,.int 0 0,.ref 20,.int 5 0,.int 0 0,.ref 27,.int 18 0,.int 0 0,.ref 62,.int 34 0,.int 0 0,.ref 104,.int 50 0,.int 0 0,.ref 151,.int 71 0,.int 0 0,.ref 205,.int 84 0,.int 0 0,.ref 245,.int 94 0,.int 0 0,.ref 278,.int 117 0,.int 0 0,.ref 330,.int 132 0,.int 0 0,.ref 366,.int 156 0,.int 0 0,.ref 418,.int 179 0,.int 0 0,.ref 470,.int 183 0,.int 0 0,.ref 477,.int 187 0,.int 0 0,.ref 484,.int 200 0,.int 0 0,.ref 491,.int 204 0,.int 0 0,.ref 498,.int 207 0,.int 0 0,.ref 503,.int 218 0,.int 0 0,.ref 510,.int 230 0,.int 0 0,.ref 515,.int 248 0,.int 0 0,.ref 520,.int 258 0,.int 0 0,.ref 525,.int 283 0,.int 0 0,.ref 530,.int 292 0,.int 0 0,.ref 535,.int 327 0,.int 0 0,.ref 542,.int 337 0,.int 0 0,.ref 547,.int 344 0,.int 0 0,.ref 552,.int 352 0,.int 0 0,.ref 559,.int 358 0,.int 0 0,.ref 566,.int 372 0,.int 0 0,.ref 571,.int 389 0,.int 0 0,.ref 576,.int 401 0,.int 0 0,.ref 583,.int 413 0,.int 0 0,.ref 588]⟩
def o23:=ob (.type "builtin_function_or_method")<|.fields ⟨[.builtin "type.__prepare__",.type "type"]⟩
def o24(P:Params):=dc 7 [ds P "__module__" 203 "eachstepsame.blocks" 194,ds P "__qualname__" 205 "Row" 204,de P "__firstlineno__" 207<|.int 5 206,dr P "__init__" 218 35,dr P "told" 225 42,dr P "moved" 234 49,dr P "__static_attributes__" 239 50]
def o26:=ob .none<|.fields ⟨[.int 7 0,.int 4 0,.ref 34,.int 13 0,.int 4 0,.ref 41,.int 16 0,.int 4 0,.ref 48]⟩
def o27:=H0 "Row" 198 5 25 201
def o28:=H1 27 24 "eachstepsame.blocks" 194
def o50:=H10 "extra" 235 "name" "op" "operands"
def o51(P:Params):=dc 4 [ds P "__module__" 203 "eachstepsame.blocks" 194,de P "__firstlineno__" 207<|.int 5 206,dr P "__init__" 218 35,dr P "told" 225 42,dr P "moved" 234 49,dr P "__static_attributes__" 239 50,dr P "__dict__" 241 53,dr P "__weakref__" 243 54,de P "__doc__" 244 .none]
def o52:=H11 "Row" 52 51 196
def o53:=H12 240 52
def o54:=H13 242 52
def o55:=H14 52
def o56:=H15 52
def o59(P:Params):=H16 P 254 "End" 18 "edges" 265 70 "with_edges" 273 77 "reads" 280 84 "every_read" 290 91 291
def o61:=H17 20 69 23 76 26 83 29 90
def o62:=H0 "End" 249 18 60 252
def o63:=H1 62 59 "eachstepsame.blocks" 194
def o93(P:Params):=H19 P 4 254 18 "edges" 265 70 "with_edges" 273 77 "reads" 280 84 "every_read" 290 91 "__static_attributes__" 291 92 "__dict__" 293 95 "__weakref__" 295
noncomputable def o94:Obj:=⟨.type "type",none,.cls ⟨"End",[.type "object"],[.ref 94,.type "object"],93,"End",true,[],[.ref 143,.ref 197,.ref 237,.ref 270,.ref 322],false,none,false⟩,⟨[none,none,some<|.str "End" 247,some<|.str "End" 255,some<|.builtin "object.__new__",some<|.bool true]⟩⟩
def o95:=H12 292 94
def o96:=H13 294 94
def o97:=H14 94
def o98:=H15 94
def o99:=tu [.ref 94]
def o101(P:Params):=dc 9 [ds P "__module__" 306 "eachstepsame.blocks" 194,ds P "__qualname__" 308 "Jump" 307,de P "__firstlineno__" 310<|.int 34 309,dr P "__init__" 318 112,dr P "told" 325 119,dr P "moved" 334 126,dr P "edges" 341 133,dr P "with_edges" 349 140,dr P "__static_attributes__" 351 141]
def o103:=ob .none<|.fields ⟨[.int 36 0,.int 4 0,.ref 111,.int 39 0,.int 4 0,.ref 118,.int 42 0,.int 4 0,.ref 125,.int 45 0,.int 4 0,.ref 132,.int 48 0,.int 4 0,.ref 139]⟩
def o104:=H0 "Jump" 301 34 102 304
def o105:=H1 104 101 "eachstepsame.blocks" 194
def o141:=H2 "edge" 350
def o142(P:Params):=dc 2 [ds P "__module__" 306 "eachstepsame.blocks" 194,de P "__firstlineno__" 310<|.int 34 309,dr P "__init__" 318 112,dr P "told" 325 119,dr P "moved" 334 126,dr P "edges" 341 133,dr P "with_edges" 349 140,dr P "__static_attributes__" 351 141,de P "__doc__" 352 .none]
def o143:=H20 "Jump" 143 142 99 299
def o144:=H14 143
def o145:=H15 143
def o148(P:Params):=H21 P 362 "Branch" 50 376 159 383 166 "moved" 392 173 "edges" 399 180 "with_edges" "reads" 414 418
def o150:=H22 52 158 57 165 60 172 63 179 66 69
def o151:=H0 "Branch" 357 50 149 360
def o152:=H1 151 148 "eachstepsame.blocks" 194
def o195:=H9 "no" 415 "test" "yes"
def o196(P:Params):=H19 P 2 362 50 "__init__" 376 159 "told" 383 166 "moved" 392 173 "edges" 399 180 "with_edges" 407 187 "reads" 414 194 "__static_attributes__" 418
def o197:=H20 "Branch" 197 196 146 355
def o198:=H14 197
def o199:=H15 197
def o202(P:Params):=H16 P 429 "Back" 71 "__init__" 441 213 "told" 448 220 "moved" 457 227 "reads" 464 234 466
def o204:=H17 73 212 76 219 79 226 82 233
def o205:=H0 "Back" 424 71 203 427
def o206:=H1 205 202 "eachstepsame.blocks" 194
def o235:=H2 "operand" 465
def o236(P:Params):=dc 2 [ds P "__module__" 429 "eachstepsame.blocks" 194,de P "__firstlineno__" 433<|.int 71 432,dr P "__init__" 441 213,dr P "told" 448 220,dr P "moved" 457 227,dr P "reads" 464 234,dr P "__static_attributes__" 466 235,de P "__doc__" 467 .none]
def o237:=H20 "Back" 237 236 200 422
def o238:=H14 237
def o239:=H15 237
def o242(P:Params):=dc 7 [ds P "__module__" 477 "eachstepsame.blocks" 194,ds P "__qualname__" 479 "Raise" 478,de P "__firstlineno__" 481<|.int 84 480,dr P "__init__" 489 253,dr P "told" 496 260,dr P "moved" 505 267,dr P "__static_attributes__" 507 268]
def o244:=ob .none<|.fields ⟨[.int 86 0,.int 4 0,.ref 252,.int 89 0,.int 4 0,.ref 259,.int 92 0,.int 4 0,.ref 266]⟩
def o245:=H0 "Raise" 472 84 243 475
def o246:=H1 245 242 "eachstepsame.blocks" 194
def o268:=H2 "fault" 506
def o269(P:Params):=dc 2 [ds P "__module__" 477 "eachstepsame.blocks" 194,de P "__firstlineno__" 481<|.int 84 480,dr P "__init__" 489 253,dr P "told" 496 260,dr P "moved" 505 267,dr P "__static_attributes__" 507 268,de P "__doc__" 508 .none]
def o270:=H20 "Raise" 270 269 240 470
def o271:=H14 270
def o272:=H15 270
def o275(P:Params):=H21 P 518 "Risk" 94 534 286 541 293 "moved" 550 300 "edges" 556 305 "with_edges" "reads" 571 577
def o277:=H22 96 285 103 292 106 299 109 304 112 115
def o278:=H0 "Risk" 513 94 276 516
def o279:=H1 278 275 "eachstepsame.blocks" 194
def o320:=H6 "asked" 572 "catches" "edge" "extra" "op"
def o321(P:Params):=H19 P 2 518 94 "__init__" 534 286 "told" 541 293 "moved" 550 300 "edges" 556 305 "with_edges" 564 312 "reads" 571 319 "__static_attributes__" 577
def o322:=H20 "Risk" 322 321 273 511
def o323:=H14 322
def o324:=H15 322
def o327(P:Params):=H16 P 588 "Block" 117 "__init__" 602 338 "told" 608 343 "given" 614 348 "ticks" 620 353 624
def o329:=H17 119 337 124 342 127 347 130 352
def o330:=H0 "Block" 583 117 328 586
def o331:=H1 330 327 "eachstepsame.blocks" 194
def o354:=H9 "end" 621 "params" "rows"
def o355(P:Params):=H19 P 4 588 117 "__init__" 602 338 "told" 608 343 "given" 614 348 "ticks" 620 353 "__static_attributes__" 624 354 "__dict__" 626 357 "__weakref__" 628
def o356:=H11 "Block" 356 355 581
def o357:=H12 625 356
def o358:=H13 627 356
def o359:=H14 356
def o360:=H15 356
def o363(P:Params):=H21 P 639 "Function" 132 654 374 660 379 "width" 666 384 "kind_of" 674 391 "with_blocks" "kinds_of" 690 696
def o365:=H22 134 373 141 378 145 383 148 390 151 154
def o366:=H0 "Function" 634 132 364 637
def o367:=H1 366 363 "eachstepsame.blocks" 194
def o406:=H6 "blocks" 691 "gives" "kept_kinds" "kinds" "takes"
def o407(P:Params):=dc 4 [ds P "__module__" 639 "eachstepsame.blocks" 194,de P "__firstlineno__" 643<|.int 132 642,dr P "__init__" 654 374,dr P "told" 660 379,dr P "width" 666 384,dr P "kind_of" 674 391,dr P "with_blocks" 682 398,dr P "kinds_of" 690 405,dr P "__static_attributes__" 696 406,dr P "__dict__" 698 409,dr P "__weakref__" 700 410,de P "__doc__" 701 .none]
def o408:=H11 "Function" 408 407 632
def o409:=H12 697 408
def o410:=H13 699 408
def o411:=H14 408
def o412:=H15 408
def o415(P:Params):=H21 P 711 "Code" 156 723 426 729 431 "names" 736 438 "width" 742 443 "function_named" "with_function" 760 763
def o417:=H22 158 425 162 430 165 437 168 442 171 174
def o418:=H0 "Code" 706 156 416 709
def o419:=H1 418 415 "eachstepsame.blocks" 194
def o458:=H18 "functions" 761 "kept_functions"
def o459(P:Params):=dc 4 [ds P "__module__" 711 "eachstepsame.blocks" 194,de P "__firstlineno__" 715<|.int 156 714,dr P "__init__" 723 426,dr P "told" 729 431,dr P "names" 736 438,dr P "width" 742 443,dr P "function_named" 750 450,dr P "with_function" 760 457,dr P "__static_attributes__" 763 458,dr P "__dict__" 765 461,dr P "__weakref__" 767 462,de P "__doc__" 768 .none]
def o460:=H11 "Code" 460 459 704
def o461:=H12 764 460
def o462:=H13 766 460
def o463:=H14 460
def o464:=H15 460
def ha(P:Params):Heap:=⟨⟨[boot_o_0 P,boot_o_1 P,boot_o_2 P,boot_o_3 P,boot_o_4 P,boot_o_5 P,boot_o_6 P,boot_o_7 P,boot_o_8 P,boot_o_9 P,boot_o_10 P,t0,o12a,o13a,o14a]⟩,{}⟩
def tb1(P:Params):BT:=n7 (boot_o_1 P) (boot_o_3 P) (boot_o_7 P) t0 (boot_o_5 P) (boot_o_9 P) o13a
def tb2(P:Params):BT:=n7 (boot_o_2 P) (boot_o_4 P) (boot_o_8 P) o12a (boot_o_6 P) (boot_o_10 P) o14a
def tb(P:Params):BT:=(.node (boot_o_0 P) (tb1 P)<|tb2 P)
noncomputable def nm:Nat->List Str->List Value
 |_,[]=>[]
 |t,x::l=> .str x t::nm (t+1) l
noncomputable def fnm:Stmt->Str
 | .FunctionDef n _ _ _ _ _ _ _ _ _=>n
 |_=> ""
def gc(n q:Str)(a t:Nat)(l c:Int)(x y z w:Value)(m:Nat):Obj:=co [.str n t,.str q<|t+1,.str "/claim/cut.py"<|t+2,.int l 0,.int c 0,.int 0 0,.int 0 0,.int 3 0,.ref a,.bool true,.int 181 0,.ref<|a+1,.none,x,y,z,.int m 0,.int l 0,w]
def g0(s:Stmt)(q:Str):Obj:=ob .none<|fd s q 0 [] .none .none .none .none none .none .none 0
def g3(s:Stmt)(q:Str)(v:Value)(a:Nat):Obj:=ob (.type "function")<|fd s q 3 [] .none .none .none v none (.ref a) .none 0
def gs(b:List Stmt)(v:Value):List (Nat×Str×Int×Int×Option (List Str))->Nat->Nat->List Obj->List Obj
 |[],_,_,r=>r
 |(i,q,l,c,some ns)::x,a,t,r=>t0::o12a::tu (nm (t+3) ns)::t0::g0 (at_ b i) q::gc (fnm<|at_ b i) q a t l c (.ref<|a+2) (.ref<|a+3) (.ref<|a+4) (.str "/claim/cut.py"<|t+4+ns.length) (t+3+ns.length)::g3 (at_ b i) q v (a+5)::gs b v x (a+7) (t+6+ns.length) r
 |(i,q,l,c,none)::x,a,t,r=>t0::o12a::g0 (at_ b i) q::gc (fnm<|at_ b i) q a t l c .none .none (.ref<|a+2) (.str "/claim/cut.py"<|t+4) (t+3)::g3 (at_ b i) q v (a+3)::gs b v x (a+5) (t+6) r
def h0(P:Params)(r:List Obj):List Obj:=(boot_o_0 P)::(boot_o_1 P)::(boot_o_2 P)::(o3 P)::(boot_o_4 P)::(boot_o_5 P)::(boot_o_6 P)::(boot_o_7 P)::(boot_o_8 P)::(boot_o_9 P)::(boot_o_10 P)::t0::o12::o13a::o14a::r
def h1(_:Params)(r:List Obj):List Obj:=gs body (.str "__main__" 164) [(0,"_wall",1,1,some ["k"])] 15 187 r
def h2(P:Params)(r:List Obj):List Obj:=t0::o23::(o24 P)::t0::o26::o27::o28::r
def h3(_:Params)(r:List Obj):List Obj:=gs (inC<|at_ body 2) (.str "eachstepsame.blocks" 194) [(0,"Row.__init__",7,5,some ["self","name","op","extra","operands"]),(1,"Row.told",13,1,some ["self"]),(2,"Row.moved",16,3,some ["self","names","given"])] 29 208 r
def h4(P:Params)(r:List Obj):List Obj:=o50::(o51 P)::o52::o53::o54::o55::o56::t0::o23::(o59 P)::t0::o61::o62::o63::r
def h5(_:Params)(r:List Obj):List Obj:=gs (inC<|at_ body 3) (.str "eachstepsame.blocks" 194) [(0,"End.edges",20,1,some ["self"]),(1,"End.with_edges",23,2,some ["self","edges"]),(2,"End.reads",26,1,some ["self"]),(3,"End.every_read",29,1,some ["self","found","edge","handed"])] 64 259 r
def h6(P:Params)(r:List Obj):List Obj:=t0::(o93 P)::o94::o95::o96::o97::o98::o99::o23::(o101 P)::t0::o103::o104::o105::r
def h7(_:Params)(r:List Obj):List Obj:=gs (inC<|at_ body 4) (.str "eachstepsame.blocks" 194) [(0,"Jump.__init__",36,2,some ["self","edge"]),(1,"Jump.told",39,1,some ["self"]),(2,"Jump.moved",42,3,some ["self","names","blocks"]),(3,"Jump.edges",45,1,some ["self"]),(4,"Jump.with_edges",48,2,some ["self","edges"])] 106 311 r
def h8(P:Params)(r:List Obj):List Obj:=o141::(o142 P)::o143::o144::o145::o99::o23::(o148 P)::t0::o150::o151::o152::r
def h9(_:Params)(r:List Obj):List Obj:=gs (inC<|at_ body 5) (.str "eachstepsame.blocks" 194) [(0,"Branch.__init__",52,4,some ["self","test","yes","no"]),(1,"Branch.told",57,1,some ["self"]),(2,"Branch.moved",60,3,some ["self","names","blocks"]),(3,"Branch.edges",63,1,some ["self"]),(4,"Branch.with_edges",66,2,some ["self","edges"]),(5,"Branch.reads",69,1,some ["self"])] 153 367 r
def h10(P:Params)(r:List Obj):List Obj:=o195::(o196 P)::o197::o198::o199::o99::o23::(o202 P)::t0::o204::o205::o206::r
def h11(_:Params)(r:List Obj):List Obj:=gs (inC<|at_ body 6) (.str "eachstepsame.blocks" 194) [(0,"Back.__init__",73,2,some ["self","operand"]),(1,"Back.told",76,1,some ["self"]),(2,"Back.moved",79,3,some ["self","names","blocks"]),(3,"Back.reads",82,1,some ["self"])] 207 434 r
def h12(P:Params)(r:List Obj):List Obj:=o235::(o236 P)::o237::o238::o239::o99::o23::(o242 P)::t0::o244::o245::o246::r
def h13(_:Params)(r:List Obj):List Obj:=gs (inC<|at_ body 7) (.str "eachstepsame.blocks" 194) [(0,"Raise.__init__",86,2,some ["self","fault"]),(1,"Raise.told",89,1,some ["self"]),(2,"Raise.moved",92,3,some ["self","names","blocks"])] 247 482 r
def h14(P:Params)(r:List Obj):List Obj:=o268::(o269 P)::o270::o271::o272::o99::o23::(o275 P)::t0::o277::o278::o279::r
def h15(_:Params)(r:List Obj):List Obj:=gs (inC<|at_ body 8) (.str "eachstepsame.blocks" 194) [(0,"Risk.__init__",96,6,some ["self","op","extra","asked","edge","catches"]),(1,"Risk.told",103,1,some ["self"]),(2,"Risk.moved",106,3,some ["self","names","blocks"]),(3,"Risk.edges",109,1,none),(4,"Risk.with_edges",112,2,some ["self","edges"]),(5,"Risk.reads",115,1,some ["self"])] 280 523 r
def h16(P:Params)(r:List Obj):List Obj:=o320::(o321 P)::o322::o323::o324::t0::o23::(o327 P)::t0::o329::o330::o331::r
def h17(_:Params)(r:List Obj):List Obj:=gs (inC<|at_ body 9) (.str "eachstepsame.blocks" 194) [(0,"Block.__init__",119,4,some ["self","params","rows","end"]),(1,"Block.told",124,1,none),(2,"Block.given",127,1,none),(3,"Block.ticks",130,1,none)] 332 593 r
def h18(P:Params)(r:List Obj):List Obj:=o354::(o355 P)::o356::o357::o358::o359::o360::t0::o23::(o363 P)::t0::o365::o366::o367::r
def h19(_:Params)(r:List Obj):List Obj:=gs (inC<|at_ body 10) (.str "eachstepsame.blocks" 194) [(0,"Function.__init__",134,5,some ["self","takes","gives","kinds","blocks"]),(1,"Function.told",141,1,none),(2,"Function.width",145,1,none),(3,"Function.kind_of",148,2,some ["self","name"]),(4,"Function.with_blocks",151,2,some ["self","blocks"]),(5,"Function.kinds_of",154,2,some ["self","names"])] 368 644 r
def h20(P:Params)(r:List Obj):List Obj:=o406::(o407 P)::o408::o409::o410::o411::o412::t0::o23::(o415 P)::t0::o417::o418::o419::r
def h21(_:Params)(r:List Obj):List Obj:=gs (inC<|at_ body 11) (.str "eachstepsame.blocks" 194) [(0,"Code.__init__",158,2,some ["self","functions"]),(1,"Code.told",162,1,none),(2,"Code.names",165,1,some ["self"]),(3,"Code.width",168,1,none),(4,"Code.function_named",171,2,some ["self","name"]),(5,"Code.with_function",174,3,some ["self","name","function","functions"])] 420 716 r
def h22(P:Params)(r:List Obj):List Obj:=o458::(o459 P)::o460::o461::o462::o463::o464::r
def h23(_:Params)(r:List Obj):List Obj:=gs body (.str "law_eachstepsame_k20_forms_told" 771) [(13,"_law_cell_at",179,2,some ["_law_script","_law_k"]),(14,"_law_mixed",183,2,some ["_law_cell","_law_k","_law_number"]),(15,"_law_numbers",187,2,some ["_law_cells","_law_many","_law_found","_law_cell","_law_left","_law_k"]),(16,"_law_take",200,1,some ["_law_left"]),(17,"_law_odd",204,1,some ["_law_state"]),(18,"_law_operand",207,4,none),(19,"_law_row_kinds",218,2,some ["_law_way","_law_seen","_law_num","_law_truth","_law_pair","_law_some"]),(20,"_law_drawn_row",230,4,none),(21,"_law_edge",248,6,none),(22,"_law_end",258,5,none),(23,"_law_backward",283,2,none),(24,"_law_function",292,2,none)] 465 773 r
def h24(_:Params)(r:List Obj):List Obj:=gs body (.str "law_eachstepsame_k20_forms_told" 771) [(25,"_law_made_end",327,1,some ["_law_end_here"]),(26,"_law_made",337,1,none),(27,"_law_edges",344,1,none),(28,"_law_reads",352,1,some ["_law_end_here"]),(29,"_law_end_right",358,2,some ["_law_end_here","_law_told","_law_edges_here","_law_reads_here","_law_every","_law_edge_here","_law_with_result","_law_found"]),(30,"_law_block_right",372,2,none),(31,"_law_function_right",389,2,none),(32,"_law_copies",401,1,some ["_law_told","_law_takes","_law_gives","_law_kinds","_law_blocks","_law_handed","_law_some","_law_function_here","_law_functions","_law_code"]),(33,"law",413,1,none)] 537 864 r
def hl(P:Params):List Obj:=h0 P<|h1 P<|h2 P<|h3 P<|h4 P<|h5 P<|h6 P<|h7 P<|h8 P<|h9 P<|h10 P<|h11 P<|h12 P<|h13 P<|h14 P<|h15 P<|h16 P<|h17 P<|h18 P<|h19 P<|h20 P<|h21 P<|h22 P<|h23 P<|h24 P<|[]
def hf(P:Params):Heap:=⟨⟨hl P⟩,{}⟩
noncomputable def ev:List Obj->List Obj
 |a::_::l=>a::ev l
 |l=>l
noncomputable def od:List Obj->List Obj
 |_::b::l=>b::od l
 |_=>[]
def mT:Nat->List Obj->BT
 |n+1,a::l=> .node a (mT n<|ev l)<|mT n<|od l
 |_,_=> .nil
def tl(P:Params):BT:=mT 11<|hl P
noncomputable def pk:Nat->List Addr->List Obj->Frag
 |n,a::r,o::l=>if Nat.beq n a then(a,o)::pk (n+1) r l else pk (n+1) (a::r) l
 |_,_,_=>[]
noncomputable def as:List Addr:=[2,3,4,15,17,18,20,21,29,31,32,34,35,36,38,39,41,42,43,45,46,48,49,50,51,52,53,54,64,66,67,69,70,71,73,74,76,77,78,80,81,83,84,85,87,88,90,91,92,93,94,95,96,99,106,108,109,111,112,113,115,116,118,119,120,122,123,125,126,127,129,130,132,133,134,136,137,139,140,141,142,143,146,153,155,156,158,159,160,162,163,165,166,167,169,170,172,173,174,176,177,179,180,181,183,184,186,187,188,190,191,193,194,195,196,197,200,207,209,210,212,213,214,216,217,219,220,221,223,224,226,227,228,230,231,233,234,235,236,237,240,247,249,250,252,253,254,256,257,259,260,261,263,264,266,267,268,269,270,273,280,282,283,285,286,287,289,290,292,293,294,296,297,299,300,301,304,305,306,308,309,311,312,313,315,316,318,319,320,321,322,332,334,335,337,338,339,342,343,344,347,348,349,352,353,354,355,356,357,358,368,370,371,373,374,375,378,379,380,383,384,385,387,388,390,391,392,394,395,397,398,399,401,402,404,405,406,407,408,409,410,420,422,423,425,426,427,430,431,432,434,435,437,438,439,442,443,444,446,447,449,450,451,453,454,456,457,458,459,460,461,462,472,474,475,477,478,479,481,482,484,485,486,488,489,491,492,493,495,496,498,499,500,503,504,505,507,508,510,511,512,515,516,517,520,521,522,525,526,527,530,531,532,535,536,537,539,540,542,543,544,547,548,549,552,553,554,556,557,559,560,561,563,564,566,567,568,571,572,573,576,577,578,580,581,583,584,585,588,589]
def K(P:Params):Frag:=pk 0 as<|hl P
def kc(P:Params):Frag:=K P
noncomputable def env:Env:={scope:=PySem.Challenge.pw_eachstepsame_k20_forms_told.main.scope,locals:=mainNs,globals:=mainNs,cells:=[],code:=(.ref 13),frame:=some 14}
def cE:Code:= .body (behindTheImports PySem.Challenge.pw_eachstepsame_k20_forms_told) env
def tws:((λ(_:Params->BT) (_:Params->BT) (_:Params->Heap) (_:Params->Heap) (_:Params->Frag) (_:Program) (_:Code)=>true) tb tl ha hf kc q cE)=true:=by k_qdec
def pre(w:World):(λos:OsState=>topGo treeTable PySem.Challenge.pw_eachstepsame_k20_forms_told w 11 (some<|.ref 6) 12 ⟨boot_heap w.params,⟨[]⟩,boot_drawn,boot_toks,os⟩<|topStub PySem.Challenge.pw_eachstepsame_k20_forms_told)=λos=>some (⟨ha w.params,⟨[]⟩,{},187,os⟩,⟨denote treeTable cE,cE,⟨0,0,0,0⟩,[topFrame ⟨0,0,0,0⟩]⟩):=by
 rewrite[PySem.W.Fast.te15667345088766844465,PySem.W.Fast.te14364793385576792824,PySem.W.Fast.te12347542494843424074,PySem.W.Fast.te12167769141508308155,PySem.W.Fast.te11892475500146522536,PySem.W.Fast.te2343313782933208130]
 kernel_rfl
def block(w:World):(λos:OsState=>segRun treeTable PySem.Challenge.pw_eachstepsame_k20_forms_told w 11 (some<|.ref 6) 1 1 ⟨ha w.params,⟨[]⟩,{},187,os⟩<|blockOf (behindTheImports PySem.Challenge.pw_eachstepsame_k20_forms_told) env cE ⟨0,0,0,0⟩ [topFrame ⟨0,0,0,0⟩])=λos=>some (Flow.next,(⟨tb w.params,15,{},⟨[]⟩,{},187,os⟩:SharedT).abs,cE,⟨0,0,0,0⟩):=by
 rewrite[PySem.W.Fast.te14374325043358763698,PySem.W.Fast.te14364793385576792824,PySem.W.Fast.te12347542494843424074,PySem.W.Fast.te12167769141508308155,PySem.W.Fast.te17306263501064129316,PySem.W.Fast.te17150320874572105945,PySem.W.Fast.te2343313782933208130]
 kernel_rfl
def seg(w:World):(λos:OsState=>segRunT treeTable PySem.Challenge.pw_eachstepsame_k20_forms_told w 11 (some<|.ref 6) 1 4165 (⟨tb w.params,15,{},⟨[]⟩,{},187,os⟩:SharedT)<|piecesOf (behindTheImports PySem.Challenge.pw_eachstepsame_k20_forms_told) env cE ⟨0,0,0,0⟩ [topFrame ⟨0,0,0,0⟩])=λos=>some (Flow.next,(⟨tl w.params,590,{},⟨[]⟩,{},938,os⟩:SharedT),cE,⟨413,0,432,121⟩):=by
 rewrite[PySem.W.Fast.te10110043849684766642,PySem.W.Fast.te14364793385576792824,PySem.W.Fast.te12347542494843424074,PySem.W.Fast.te17306263501064129316,PySem.W.Fast.te7101502176447651324,PySem.W.Fast.te17150320874572105945,PySem.W.Fast.te2343313782933208130]
 kernel_rfl
def fin(w:World):(λos:OsState=>topRun treeTable PySem.Challenge.pw_eachstepsame_k20_forms_told w 11 (some<|.ref 6) 2 (⟨tl w.params,590,{},⟨[]⟩,{},938,os⟩:SharedT).abs ⟨doneF .next,cE,⟨413,0,432,121⟩,[topFrame ⟨0,0,0,0⟩]⟩)=λos=>some (⟨hf w.params,⟨[]⟩,{},938,os⟩:Shared):=by
 rewrite[PySem.W.Fast.te14082659384304107361,PySem.W.Fast.te14364793385576792824,PySem.W.Fast.te12347542494843424074,PySem.W.Fast.te7101502176447651324,PySem.W.Fast.te10544986032919753165,PySem.W.Fast.te2343313782933208130]
 kernel_rfl
def run(w:World)(os:OsState):topRun treeTable PySem.Challenge.pw_eachstepsame_k20_forms_told w 11 (some<|.ref 6) (12+(1+(4165+2))) ⟨boot_heap w.params,⟨[]⟩,boot_drawn,boot_toks,os⟩ (topStub PySem.Challenge.pw_eachstepsame_k20_forms_told)=some (⟨hf w.params,⟨[]⟩,{},938,os⟩:Shared):=by have a:=piece_app (rest:=[]) (segRun_of<|congrFun (seg w) os)<|piece_nil<|congrFun (fin w) os;rw[append_nil] at a;exact go_top (congrFun (pre w) os)<|piece_block (congrFun (block w) os) a
def Xt(s:Shared):Bool:=xlAt q [] s&&recOk [] s
def keys(P:Params):as=(K P).map (·.1):=by kernel_rfl
def hk:Hook:=kmHook K as keys [586]
def lk1(w:World):(λos:OsState=>staticsOk (importedModules PySem.Challenge.pw_eachstepsame_k20_forms_told.main.body) (boot_heap w.params) (hf w.params)&&namesBound PySem.Challenge.pw_eachstepsame_k20_forms_told (hf w.params)&&gensDone (⟨hf w.params,⟨[]⟩,{},938,os⟩:Shared)&&laidKept (boot_heap w.params) (hf w.params))=λos=>true:=by
 rewrite[PySem.W.Fast.te5923862056798008813,PySem.W.Fast.te12347542494843424074,PySem.W.Fast.te10544986032919753165]
 kernel_rfl
def lk2(w:World):(λos:OsState=>seen ((recsOf q).map (·.name)) (ownsOf q) [] {(⟨hf w.params,⟨[]⟩,{},938,os⟩:Shared) with gens:= #[]})=λos=>expectedOf q:=by
 rewrite[PySem.W.Fast.te5160383126252970620,PySem.W.Fast.te3399658132070893891,PySem.W.Fast.te5991557255702980513,PySem.W.Fast.te1768822226353211369,PySem.W.Fast.te10544986032919753165]
 kernel_rfl
def lk3(w:World):(λos:OsState=>(⟨hf w.params,⟨[]⟩,{},938,os⟩:Shared).heap.bltView)=λos=>bltViewBooted:=by
 rewrite[PySem.W.Fast.te10544986032919753165]
 kernel_rfl
def lk4(w:World):(λos:OsState=>(⟨hf w.params,⟨[]⟩,{},938,os⟩:Shared).heap.keysOk (looseW q []) ((recsOf q).map (·.name)) ((litsOf q).map (·.1)) ((clssOf q<|looseW q []).map (·.name))&&(⟨hf w.params,⟨[]⟩,{},938,os⟩:Shared).heap.accountedOkI (importedModules PySem.Challenge.pw_eachstepsame_k20_forms_told.main.body)&&(⟨hf w.params,⟨[]⟩,{},938,os⟩:Shared).heap.isNs mainGlobals&&(⟨hf w.params,⟨[]⟩,{},938,os⟩:Shared).heap.isNs builtinsNs&&tablesOk q (⟨hf w.params,⟨[]⟩,{},938,os⟩:Shared).heap&&Xt (⟨hf w.params,⟨[]⟩,{},938,os⟩:Shared)&&(if true then(⟨hf w.params,⟨[]⟩,{},938,os⟩:Shared).gens.size==0 else !leftWithCleanup (⟨hf w.params,⟨[]⟩,{},938,os⟩:Shared).gens))=λos=>true:=by
 rewrite[PySem.W.Fast.te821141287760084731,PySem.W.Fast.te3399658132070893891,PySem.W.Fast.te7409074990110511671,PySem.W.Fast.te13664370479719496447,PySem.W.Fast.te5923862056798008813,PySem.W.Fast.te10994771534591457954,PySem.W.Fast.te12347542494843424074,PySem.W.Fast.te1768822226353211369,PySem.W.Fast.te10544986032919753165]
 kernel_rfl
def lk5(w:World):(λos:OsState=>tabsOk q (⟨hf w.params,⟨[]⟩,{},938,os⟩:Shared))=λos=>true:=by
 rewrite[PySem.W.Fast.te479339242167458305,PySem.W.Fast.te1768822226353211369,PySem.W.Fast.te10544986032919753165]
 kernel_rfl
def lk6(w:World):(λos:OsState=>pinSeenD q (drecsOf q) (⟨hf w.params,⟨[]⟩,{},938,os⟩:Shared))=λos=>pinGoodD (drecsOf q):=by
 rewrite[PySem.W.Fast.te16090120013241838585,PySem.W.Fast.te3247288618530077131,PySem.W.Fast.te1768822226353211369,PySem.W.Fast.te10544986032919753165]
 kernel_rfl
def lk7(w:World):(λos:OsState=>plainSeenE q (looseW q []) (⟨hf w.params,⟨[]⟩,{},938,os⟩:Shared))=λos=>plainGoodE q (looseW q []):=by
 rewrite[PySem.W.Fast.te2386780881361962483,PySem.W.Fast.te821141287760084731,PySem.W.Fast.te1768822226353211369,PySem.W.Fast.te10544986032919753165]
 kernel_rfl
def lk8(w:World):(λos:OsState=>plainSeenD q [] (⟨hf w.params,⟨[]⟩,{},938,os⟩:Shared))=λos=>plainGoodD q []:=by
 rewrite[PySem.W.Fast.te11698064438423848299,PySem.W.Fast.te1768822226353211369,PySem.W.Fast.te10544986032919753165]
 kernel_rfl
def lk9(w:World):(λos:OsState=>wideSeen q (⟨hf w.params,⟨[]⟩,{},938,os⟩:Shared))=λos=>wideGood q:=by
 rewrite[PySem.W.Fast.te7317090234206586261,PySem.W.Fast.te1768822226353211369,PySem.W.Fast.te10544986032919753165]
 kernel_rfl
def lk10(w:World):(λos:OsState=>clsSeenW q [] (⟨hf w.params,⟨[]⟩,{},938,os⟩:Shared))=λos=>clsGoodW q []:=by
 rewrite[PySem.W.Fast.te7369524293546568484,PySem.W.Fast.te1768822226353211369,PySem.W.Fast.te10544986032919753165]
 kernel_rfl
def kkc:K=kc:=rfl
def lk0(w:World):(λos:OsState=>as.map (⟨hf w.params,⟨[]⟩,{},938,os⟩:Shared).heap.get?)=λos=>(K w.params).map λp=>some p.2:=by
 rewrite[kkc,PySem.W.Fast.te10544986032919753165,PySem.W.Fast.te11339538413228328203]
 kernel_rfl
def lk12(w:World):(λos:OsState=>[586].map (⟨hf w.params,⟨[]⟩,{},938,os⟩:Shared).heap.get?)=λos=>[586].map λ_=>some (tabObj #[]):=by
 rewrite[PySem.W.Fast.te10544986032919753165]
 kernel_rfl
def lk11(w:World):(λos:OsState=>hk.obs (⟨hf w.params,⟨[]⟩,{},938,os⟩:Shared))=λos=>hk.val w:=by funext os;exact looks_pair (congrFun (lk0 w) os)<|congrFun (lk12 w) os
def looks(w:World):(λos:OsState=>((staticsOk (importedModules PySem.Challenge.pw_eachstepsame_k20_forms_told.main.body) (boot_heap w.params) (hf w.params)&&namesBound PySem.Challenge.pw_eachstepsame_k20_forms_told (hf w.params)&&gensDone (⟨hf w.params,⟨[]⟩,{},938,os⟩:Shared)&&laidKept (boot_heap w.params) (hf w.params)),
  openSeen q [] (importedModules PySem.Challenge.pw_eachstepsame_k20_forms_told.main.body) Xt true (⟨hf w.params,⟨[]⟩,{},938,os⟩:Shared),hk.obs (⟨hf w.params,⟨[]⟩,{},938,os⟩:Shared)))=λ_=>(true,openGood q [],hk.val w):=by
 funext os;refine looks_pair (congrFun (lk1 w) os)<|looks_pair ?_<|congrFun (lk11 w) os;exact looks_pair (congrFun (lk2 w) os)<|looks_pair (congrFun (lk3 w) os)<|looks_pair (congrFun (lk4 w) os)<|looks_pair (congrFun (lk5 w) os)<|looks_pair (congrFun (lk6 w) os)<|looks_pair (congrFun (lk7 w) os)<|looks_pair (congrFun (lk8 w) os)<|looks_pair (congrFun (lk9 w) os)<|congrFun (lk10 w) os
def left:LeftO PySem.Challenge.pw_eachstepsame_k20_forms_told q [] Xt hk.obs hk.val 8454 true:=
 LeftO.of_pieces (boot_open (by kernel_rfl) (by kernel_rfl) (λs=>by kernel_rfl)) (λw=>by kernel_rfl) run (by kernel_rfl) looks
end
end Op
noncomputable section
open PySem PySem.Spec PyProof.Rows
open PySem.Sem (wp)
open PySem.AutoSeq1 (wpAny_loadPart')
section
def aa:= @wpAny_bind
def ac:= @Heap.get?_push_of_some
def aS:= @List.getElem?_set_ne
def bf:= @Bool.false_ne_true
def ae:= @wpAny_pure
def ak:= @some.inj
def af:= @Nat.le_refl
def ai:= @Heap.lt_size
def al:= @ne_of_lt
def ah:= @List.mem_of_getElem?
def av:= @Nat.lt_of_lt_of_le
def aj:= @Heap.get?_push_size
def aA:= @List.getElem?_eq_getElem
def bO:= @List.set_append_left
def aL:= @PySem.mem_of_lookup
def aG:= @List.length_set
def aK:= @Nat.lt_succ_self
def az:= @List.getElem?_map
def aJ:= @List.mem_append_right
def aI:= @List.getElem?_append_left
def aM:= @List.getElem?_append_right
def aD:= @length_append
def aY:= @List.getElem?_set_self
def ao:= @Nat.le_trans
def bM:= @Nat.ne_of_gt
def bF:= @wpAny_setField_rec
def bG:= @Int.emod_lt_of_pos
def bj:= @Nat.lt_irrefl
def aO:= @wpAny_mono
def bc:= @wpAny_field
def bC:= @PyProof.Rows.callWith_type1
def au{α:Type _}{l:List α}{i:Nat}{a:α}(h:l[i]? =some a):∃h:i<l.length,l[i]=a:=List.getElem?_eq_some_iff.mp h
abbrev aw:=PySem.W.Frag
end
def rO{P:Prop}(h:false=true):P:=absurd h bf
namespace L2
variable{us:List Value}{u:Value}{C a b dx it:Addr}{base h:Heap}{w:World}{P:Program}{o:Obj}{ch fp:List Addr}{i j n t':Nat}{qual x:Str}{E Q:Value->Shared->Prop}{A:Around}{c e tg:Expr}{s:Shared}{p pos:Pos}{pins:List (Addr×Obj)}{f:Value->Value->Sem Value}{mA mg:Str->Option Value}{kw:List (Str×Value)}
abbrev Key:=Sum Int Str
noncomputable def il:Key->Value->Bool
 | .inl k,v=>Value.isInt k v
 | .inr x,v=>Value.isStrOf x v
noncomputable def FR(w:World):Key->Int
 | .inl k=>hashInt k
 | .inr x=>hashStr w x
theorem bK:∀{k:Key}{v:Value},il k v=true->(∃i t,k=Sum.inl i/\v=Value.int i t)\/(∃x t,k=Sum.inr x/\v=Value.str x t)
 | .inl i,v,h=>by obtain⟨t,e⟩:=Value.isInt_shape h;exact .inl ⟨i,t,rfl,e⟩
 | .inr x,v,h=>by obtain⟨t,e⟩:=Value.isStrOf_shape h;exact .inr ⟨x,t,rfl,e⟩
def uB(i:Int)(t:Tok):il (.inl i) (.int i t)=true:=by simp[il,Value.isInt]
def uA(x:Str)(t:Tok):il (.inr x) (.str x t)=true:=by simp[il,Value.isStrOf]
def B3(a b:Int):decide ((Sum.inl a:Key)=Sum.inl b)=(a==b):=by
 by_cases e:a=b
 .subst e;simp
 simp_all
def B0(a b:Str):decide ((Sum.inr a:Key)=Sum.inr b)=decide (a=b):=by simp
def B2(a:Int)(b:Str):decide ((Sum.inl a:Key)=Sum.inr b)=false:=decide_eq_false (λq=>nomatch q)
def B1(a:Str)(b:Int):decide ((Sum.inr a:Key)=Sum.inl b)=false:=decide_eq_false (λq=>nomatch q)
def bD(prog:Program)(w:World):PySem.KeyKind prog w Key where
 is:=il
 hash:=FR w
 inj:=λv a b ha hb=>by
  rcases bK ha with⟨i,t,rfl,rfl⟩|⟨x,t,rfl,rfl⟩
  .rcases bK hb with⟨j,u,rfl,e⟩|⟨y,u,rfl,e⟩
   .injection e with e1 _;rw[e1]
   .exact nomatch e
  .rcases bK hb with⟨j,u,rfl,e⟩|⟨y,u,rfl,e⟩
   .exact nomatch e
   .injection e with e1 _;rw[e1]
 byValue:=λk v h=>by rcases bK h with⟨i,t,rfl,rfl⟩|⟨x,t,rfl,rfl⟩<;>rfl
 pyHash:=λhv h=>by
  rcases bK hv with⟨i,t,rfl,rfl⟩|⟨x,t,rfl,rfl⟩
  .exact wpAny_pyHash_int h
  .exact wpAny_pyHash_str h
 eqBool:=λhu hv h=>by
  rcases bK hu with⟨i,t,rfl,rfl⟩|⟨x,t,rfl,rfl⟩
  .rcases bK hv with⟨j,u,rfl,rfl⟩|⟨y,u,rfl,rfl⟩
   .rw[B3] at h;exact wpAny_eqBool_int h
   .rw[B2] at h;exact SeqAt.EqAt.int_str i t y u _ _ _ _ h
  .rcases bK hv with⟨j,u,rfl,rfl⟩|⟨y,u,rfl,rfl⟩
   .rw[B1] at h;exact SeqAt.EqAt.str_int x t j u _ _ _ _ h
   .rw[B0] at h;exact wpAny_eqBool_str h
 «strs»:=λk x t v h=>by
  rcases bK h with⟨i,u,rfl,e⟩|⟨y,u,rfl,e⟩
  .exact nomatch e
  .injection e with e1 _;subst e1;cases v<;>rfl
def pK(prog:Program)(w:World)(i:Int)(t:Tok):(bD prog w).is (.inl i) (.int i t)=true:=uB i t
def pJ(prog:Program)(w:World)(x:Str)(t:Tok):(bD prog w).is (.inr x) (.str x t)=true:=uA x t
inductive V where
 |non|bl (b:Bool)|int (i:Int)|str (x:Str)|byt (b:Array UInt8)|flt (b:UInt64)|ref (a:Addr)|ty (n:String)
 deriving DecidableEq
noncomputable def RelV:V->Value->Prop
 | .non,u=>u=Value.none
 | .bl b,u=>u=Value.bool b
 | .int i,u=>∃t,u=Value.int i t
 | .str x,u=>∃t,u=Value.str x t
 | .byt b,u=>∃t,u=Value.bytes b t
 | .flt b,u=>∃t,u=Value.float b t
 | .ref a,u=>u=Value.ref a
 | .ty n,u=>u=Value.type n
abbrev bq:List V->List Value->Prop:=Paired RelV
theorem bq.length(r:bq xs us):xs.length=us.length:=Paired.length r
theorem bq.get:∀{xs:List V}{us:List Value}{i:Nat}{x:V},bq xs us->xs[i]? =some x->∃u,us[i]? =some u/\RelV x u
 |_,_,_,_,.nil,e=>by simp at e
 |_,_,0,_,.cons r _,e=>by simp at e;subst e;exact⟨_,rfl,r⟩
 |_,_,i+1,x,.cons _ t,e=>by
  obtain⟨u,h1,h⟩:=bq.get t (by simpa using e)
  exact⟨u,by trivial,h⟩
theorem bq.set{x:V}(r:RelV x u):∀{xs:List V}{us:List Value}(i:Nat),bq xs us->bq (xs.set i x) (us.set i u)
 |_,_,_,.nil=>.nil
 |_,_,0,.cons _ t=>.cons r t
 |_,_,i+1,.cons q t=>.cons q<|bq.set r i t
theorem bq.append:∀{xs ys:List V}{us h:List Value},bq xs us->bq ys h->bq (xs++ys) (us++h)
 |_,_,_,_,.nil,s=>s
 |_,_,_,_,.cons r t,s=>.cons r<|bq.append t s
theorem bq.take:∀{xs:List V}{us:List Value}(n:Nat),bq xs us->bq (xs.take n) (us.take n)
 |_,_,0,_=>.nil
 |_,_,_+1,.nil=>.nil
 |_,_,n+1,.cons r t=>.cons r<|bq.take n t
theorem bq.drop:∀{xs:List V}{us:List Value}(n:Nat),bq xs us->bq (xs.drop n) (us.drop n)
 |_,_,0,r=>r
 |_,_,_+1,.nil=>.nil
 |_,_,n+1,.cons _ t=>bq.drop n t
def iE:Option V->Option Value->Prop
 |some v,some u=>RelV v u
 |none,none=>True
 |_,_=>False
def KV{κ:Type}:List (κ×V)->List (κ×Value)->Prop:=Paired λ(p:κ×V)(q:κ×Value)=>p.1=q.1/\RelV p.2 q.2
noncomputable def kV:Key->V
 | .inl i=>.int i
 | .inr x=>.str x
inductive HO where
 |lst (xs:List V)
 |tup (xs:List V)
 |dK (kvs:List (Key×V))|dT (kvs:List (List Key×V))
 |set (S:Int->Bool)(n:Nat)
 |ins (C dx:Addr)(fs:List (Str×V))
 |own (x:Addr)
 |xd (fs:List (Str×V))
 |met (f x:Addr)
 |rng (lo hi:Int)
 |frz (o:Obj)(u:HO)
 |tbl (ps:Array Value)
 |ext (φ:Heap->Prop)
abbrev Hp:=Addr->Option HO
noncomputable def upd(H:Hp)(a:Addr)(o:HO):Hp:=λb=>if b=a then some o else H b
def aT{H:Hp}{o:HO}:upd H a o a=some o:=by unfold upd;rw[if_pos rfl]
def aq{H:Hp}{o:HO}(h:b≠a):upd H a o b=H b:=by unfold upd;rw[if_neg h]
def cg{H:Hp}{o u:HO}(h:H a=some o)(h':H b=some u)(d:o≠u):a≠b:=by intro e;simp_all
def aE{H:Hp}{o:HO}(h:H a=some o)(h':H b=none):a≠b:=by intro e;subst e;rw[h] at h';cases h'
def ko(h:Heap)(a:Addr)(its:Array Value):Prop:=∃o,h.get? a=some o/\(o.cls=.type "tuple" /\o.dict=none)/\∃n,o.data=.seq its n
def ko.tup(x:ko h a its):IsTup h a its:=let⟨o,e,c,d⟩:=x;⟨o,e,c.1,d⟩
theorem ko.lt(x:ko h a its):a<h.objs.size:=x.tup.lt
def ko.new(h:Heap)(its:Array Value):ko (h.push {cls:= .type "tuple",data:= .seq its}) h.objs.size its:=⟨_,aj _ rfl,⟨rfl,rfl⟩,0,rfl⟩
section
variable(P:Program)(w:World)
def bL(H:Hp)(h:Heap)(a:Addr):HO->Prop
 | .lst xs=>xs.length<=sizeLine/\∃(its:List Value)(n:Nat),bq xs its/\h.get? a=some {cls:= .type "list",data:= .seq its.toArray n}
 | .tup xs=>xs.length<=sizeLine/\∃its:List Value,bq xs its/\ko h a its.toArray
 | .dK kvs=>kvs.length<=sizeLine/\(a==sysModules)=false/\∃vs,KV kvs vs/\h.DictOf (bD P w) a vs
 | .dT kvs=>kvs.length<=sizeLine/\(a==sysModules)=false/\∃xs:List (List Key×Addr×Value),
   Paired (λ(p:List Key×V)(q:List Key×Addr×Value)=>p.1=q.1/\H q.2.1=some (.tup<|p.1.map kV)/\RelV p.2 q.2.2) kvs xs/\
   ∃o es ep,h.get? a=some o/\o.ExactDict/\o.data=.dict es ep/\es.toList=xs.map (entryOfKey<|tupleKind<|bD P w)/\(xs.map (·.1)).Nodup
 | .set S n=>h.SetOf (intKind P w) a S n
 | .ins C dx fs=>H dx=some (.own a)/\fs.length<=1000/\dx≠a/\h.get? a=some (PySem.W.instObj C dx)/\
   ∃mA,h.Ns1 dx mA/\(∀f,iE (fs.lookup f)<|mA f)/\PySem.Within mA (fs.map (·.1))
 | .own _=>∃o,h.get? a=some o
 | .xd fs=>∃mA,h.Ns1 a mA/\∀f,iE (fs.lookup f) (mA f)
 | .rng lo hi=>∃t u v,h.get? a=some {cls:= .type "range",data:= .fields #[.int lo t,.int hi u,.int 1 v]}
 | .frz o u=>h.get? a=some o/\bL H h a u
 | .tbl ps=>h.get? a=some {cls:= .none,data:= .fields ps}
 | .met f x=>h.get? a=some (PySem.W.methodObj (.ref f)<|.ref x)
 | .ext φ=>φ h/\(∃o,h.get? a=some o)/\∀h1 h2:Heap,φ h1->(∀o,h1.get? a=some o->h2.get? a=some o)->φ h2
def iG(H:Hp)(h:Heap):Prop:=∀a o,H a=some o->bL P w H h a o
end
section
variable{P:Program}{w:World}{H H':Hp}{h h':Heap}{a:Addr}{o:HO}
theorem bL.lt(x:bL P w H h a o):a<h.objs.size:=by
 cases o with
 |lst xs=>obtain⟨_,_,_,_,e⟩:=x;exact ai e
 |tup xs=>obtain⟨_,_,_,p⟩:=x;exact p.lt
 |set S n=>obtain⟨o,_,_,_,e,_⟩:=x;exact ai e
 |ins C dx fs=>obtain⟨_,_,_,e,_⟩:=x;exact ai e
 |own y=>obtain⟨_,e⟩:=x;exact ai e
 |xd fs=>obtain⟨_,⟨_,_,_,e,_⟩,_⟩:=x;exact ai e
 |rng lo hi=>obtain⟨_,_,_,e⟩:=x;exact ai e
 |frz ob u=>obtain⟨e,_⟩:=x;exact ai e
 |tbl ps=>exact ai (show h.get? a=some _ from x)
 |met f y=>exact ai (show h.get? a=some _ from x)
 |ext φ=>obtain⟨_,⟨_,e⟩,_⟩:=x;exact ai e
 |_=>obtain⟨_,_,_,_,o,_,_,e,_⟩:=x;exact ai e
theorem Paired.mapP{α β:Type}{F G:α->β->Prop}:∀{l₁:List α}{l₂:List β},Paired F l₁ l₂->(∀a b,F a b->G a b)->Paired G l₁ l₂
 |_,_,.nil,_=>.nil
 |_,_,.cons r t,f=>.cons (f _ _ r)<|Paired.mapP t f
def bL.stay(x:bL P w H h a o)(k:∀b u,(b=a\/H b=some (.own a))->h.get? b=some u->h'.get? b=some u)
  (ho:∀b,H b=some (.own a)->H' b=some (.own a))(Y:∀b xs,H b=some (.tup xs)->H' b=some (.tup xs)):bL P w H' h' a o:=by
 induction o with
 |lst xs=>obtain⟨z,its,n,r,e⟩:=x;exact⟨z,its,n,r,k _ _ (.inl rfl) e⟩
 |tup xs=>obtain⟨z,its,r,I,e,c⟩:=x;exact⟨z,its,r,I,k _ _ (.inl rfl) e,c⟩
 |dK kvs=>obtain⟨z,y,vs,r,I,es,ep,e,c⟩:=x;exact⟨z,y,vs,r,I,es,ep,k _ _ (.inl rfl) e,c⟩
 |dT kvs=>obtain⟨z,y,xs,r,I,es,ep,e,c⟩:=x;exact⟨z,y,xs,Paired.mapP r λp q z=>⟨z.1,Y _ _ z.2.1,z.2.2⟩,I,es,ep,k _ _ (.inl rfl) e,c⟩
 |set S n=>obtain⟨I,es,ep,t,e,c⟩:=x;exact⟨I,es,ep,t,k _ _ (.inl rfl) e,c⟩
 |ins C dx fs=>obtain⟨d,z,ne,e,mA,⟨J,es,ep,Z,c⟩,r⟩:=x;exact⟨ho _ d,z,ne,k _ _ (.inl rfl) e,mA,⟨J,es,ep,k _ _ (.inr d) Z,c⟩,r⟩
 |own y=>obtain⟨I,e⟩:=x;exact⟨I,k _ _ (.inl rfl) e⟩
 |xd fs=>obtain⟨mA,⟨J,es,ep,e,c⟩,r⟩:=x;exact⟨mA,⟨J,es,ep,k _ _ (.inl rfl) e,c⟩,r⟩
 |rng lo hi=>obtain⟨t,u,v,e⟩:=x;exact⟨t,u,v,k _ _ (.inl rfl) e⟩
 |frz I u ih=>obtain⟨e,q⟩:=x;exact⟨k _ _ (.inl rfl) e,ih q⟩
 |tbl ps=>have e:=x;exact k a _ (.inl rfl) e
 |met f y=>have e:=x;exact k a _ (.inl rfl) e
 |ext φ=>obtain⟨p,⟨o,e⟩,st⟩:=x;exact⟨st _ _ p λo q=>k _ _ (.inl rfl) q,⟨o,k _ _ (.inl rfl) e⟩,st⟩
theorem iG.lt(x:iG P w H h)(e:H a=some o):a<h.objs.size:=(x a o e).lt
def iG.fresh(x:iG P w H h)(e:h.objs.size<=a):H a=none:=by
 cases q:H a with
 |none=>rfl
 |some u=>exact absurd (av (x.lt q) e)<|bj _
def iG.kept(x:iG P w H h)(k:∀b u,h.get? b=some u->h'.get? b=some u):iG P w H h':=λa o e=>
 (x a o e).stay (λb u _ q=>k b u q) (λ_ q=>q) λ_ _ q=>q
def iG.laid(x:iG P w H h)(k:∀b u,h.get? b=some u->h'.get? b=some u)(J:h.objs.size<=a)(new:bL P w (upd H a o) h' a o):iG P w (upd H a o) h':=λb u e=>by
 have I:=x.fresh J;by_cases hb:b=a
 .subst hb;rw[aT] at e;simp_all
 .rw[aq hb] at e;exact(x b u e).stay (λc v _ q=>k c v q) (λc q=>by rw[aq<|aE q I];exact q) λc xs q=>by rw[aq<|aE q I];exact q
end
def Rd(H:Hp)(a:Addr)(u:HO):Prop:=H a=some u\/∃o,H a=some (.frz o u)
def Rd.ok{H:Hp}{u:HO}(r:Rd H a u)(x:iG P w H h):bL P w H h a u:=by
 rcases r with r|⟨o,r⟩
 .exact x a u r
 .obtain⟨_,q⟩:=x a _ r;exact q
noncomputable def ET:Option HO->Prop
 |some (.lst _)=>True
 |some (.dK _)=>True
 |some (.dT _)=>True
 |some (.set _ _)=>True
 |some (.ins _ _ _)=>True
 |some (.ext _)=>True
 |_=>False
section
variable{P:Program}{w:World}{H:Hp}{h h':Heap}{x e:Addr}{o':HO}
def iG.write(ok:iG P w H h)(I:ET (H x))(he:e=x\/H e=some (.own x))(k:∀b u,b≠e->h.get? b=some u->h'.get? b=some u)(J:∃u,h'.get? e=some u)
  (new:bL P w (upd H x o') h' x o'):iG P w (upd H x o') h':=λb u q=>by
 have nown:∀c y,H c=some (.own y)->c≠x:=λc y r z=>by cases z;rw[r] at I;exact I
 have ntup:∀c xs,H c=some (.tup xs)->c≠x:=λc xs r z=>by cases z;rw[r] at I;exact I
 by_cases hb:b=x
 .cases hb;rw[aT] at q;cases q;exact new
 .rw[aq hb] at q;by_cases hbe:b=e
  .have Y:H b=some (.own x):=by
    simp_all
   rw[q] at Y;cases Y;obtain⟨v,hv⟩:=J;exact⟨v,by rw[hbe];exact hv⟩
  .refine(ok b u q).stay (λc v Z r=>k c v ?_ r) (λc r=>by rw[aq<|nown c b r];exact r) λc xs r=>by rw[aq<|ntup c xs r];exact r
   rcases Z with rfl|Z
   .exact hbe
   .rintro rfl
    simp_all
end
structure Un(fs ex:List Addr)(H H':Hp)(h h':Heap):Prop where
 keep:∀b o,h.get? b=some o->H b=none->b∉fs->b∉ex->h'.get? b=some o
 slot:∀b o,h.get? b=some o->H b=none->b∈fs->b∉ex->∃sl,h'.get? b=some {o with slots:=sl}
 free:∀b o,h.get? b=some o->H b=none->b∉ex->H' b=none
 there:∀b o,h.get? b=some o->b∉ex->∃o',h'.get? b=some o'
 tups:∀b xs,H b=some (.tup xs)->H' b=some (.tup xs)
 frzs:∀b o u,H b=some (.frz o u)->H' b=some (.frz o u)
 tbls:∀b ps,H b=some (.tbl ps)->∃more,H' b=some (.tbl<|ps++more)
section
variable{fs ex:List Addr}{H H1:Hp}{h h1 h':Heap}{a x e:Addr}{o:HO}
def Un.any(u:Un fs ex H H1 h h1)(q:h.get? b=some I)(n:H b=none)(J:b∉ex):∃sl,h1.get? b=some {I with slots:=sl}:=by
 by_cases hb:b∈fs
 .exact u.slot b I q n hb J
 .exact⟨I.slots,u.keep b I q n hb J⟩
def Un.kept(k:∀b u,h.get? b=some u->h'.get? b=some u):Un fs ex H H h h':=
 ⟨λb I q _ _ _=>k b I q,λb I q _ _ _=>⟨I.slots,k b I q⟩,λ_ _ _ n _=>n,λb I q _=>⟨I,k b I q⟩,λ_ _ q=>q,λ_ _ _ q=>q,λ_ ps q=>⟨#[],by rw[q];simp⟩⟩
def Un.refl:Un fs ex H H h h:=Un.kept λ_ _ q=>q
def Un.laid(k:∀b u,h.get? b=some u->h'.get? b=some u)(J:h.objs.size<=a)(I:H a=none):Un fs ex H (upd H a o) h h' where
 keep:=λb u q _ _ _=>k b u q
 slot:=λb u q _ _ _=>⟨u.slots,k b u q⟩
 free:=λb u q n _=>by rw[aq<|al<|av (ai q) J];exact n
 there:=λb u q _=>⟨u,k b u q⟩
 tups:=λb xs q=>by rw[aq<|aE q I];exact q
 frzs:=λb u xs q=>by rw[aq<|aE q I];exact q
 tbls:=λb ps q=>⟨#[],by rw[aq<|aE q I,q];simp⟩
def Un.write(J:ET (H x))(he:e=x\/H e=some (.own x))(k:∀b u,b≠e->h.get? b=some u->h'.get? b=some u)(heo:∃u,h'.get? e=some u):Un fs ex H (upd H x o) h h':=by
 have Z:∀b,H b=none->b≠x:=λb n z=>by subst z;rw[n] at J;exact J
 have Y:∀b,H b=none->b≠e:=λb n z=>by
  simp_all
 have I:∀b u,H b=some u->¬ET (some u)->b≠x:=λb u q nm z=>by simp_all
 refine⟨λb u q n _ _=>k b u (Y b n) q,λb u q n _ _=>⟨u.slots,k b u (Y b n) q⟩,λb u q n _=>by rw[aq<|Z b n];exact n,λb u q _=>?_,
  λb xs q=>by rw[aq<|I b _ q λz=>z];exact q,λb u xs q=>by rw[aq<|I b _ q λz=>z];exact q,λb ps q=>⟨#[],by rw[aq<|I b _ q λz=>z,q];simp⟩⟩
 by_cases hbe:b=e
 .simp_all
 .exact⟨u,k b u hbe q⟩
end
noncomputable def Gi(h:Heap)(H:Hp):List Addr:=(range h.objs.size).filter λa=>(H a).isSome
noncomputable def oM(h:Heap)(H:Hp):Heap:=PySem.W.hideAll h<|Gi h H
def uH(h:Heap)(H:Hp):(oM h H).objs.size=h.objs.size:=PySem.W.hideAll_size _ _
def xm{H:Hp}(e:h.get? b=some o)(n:H b=none):(oM h H).get? b=some o:=
 PySem.W.hideAll_get _ e λI=>by
  have q:=(mem_filter.mp I).2
  simp_all
def zh{H:Hp}(e:(oM h H).get? b=some o):h.get? b=some o/\H b=none:=by
 have e':=PySem.W.of_hideAll _ e;refine⟨e',?_⟩;cases q:H b with
 |none=>rfl
 |some x=>
  have I:b∈Gi h H:=mem_filter.mpr ⟨mem_range.mpr<|ai e',by simp[q]⟩
  have z:(oM h H).get? b=none:=PySem.W.hideAll_none _ I
  simp_all
noncomputable def z_(g h:Heap)(L:Addr):List (Addr×Obj):=(range h.objs.size).filterMap λa=>if a=L\/(g.get? a).isSome=true then none else(h.get? a).map λo=>(a,o)
def rest(g h:Heap)(L d:Addr):List (Addr×Obj):=(z_ g h L).filter λp=>decide<|p.1≠d
structure Mod(K:aw)(mg:Str->Option Value)(base:Heap):Prop where
 kin:K.In base
 glob:base.Ns mainGlobals mg
 blt:∃mb,base.Ns builtinsNs mb/\∀x:Str,x≠ "__name__" ->mb x=bootBuiltins x
 nolimit:base.NoLimit
structure Cx where
 prog:Program
 w:World
 K:aw
 mg:Str->Option Value
 base:Heap
 A:Around
 N:List Str
 s₀:Shared
 H₀:Hp
 env:Env
 outer:List Env
 stack:List Env
 ex:List Addr
 fn:Str->Bool
 calm:Bool
 pn:List (Addr×Obj)
 xe:Value->Shared->Prop
noncomputable def xr(l:List Env):List Addr:=l.filterMap (·.frame)
abbrev Cx.fs(X:Cx):List Addr:=xr X.outer
def xT(sc:Scope)(x:Str):Prop:=sc.names.lookup x=some .local\/sc.names.lookup x=some .cell\/sc.names.lookup x=some .free
def Loc(sc:Scope)(x:Str):Prop:=sc.names.lookup x=some .local\/sc.names.lookup x=some .cell
def Look(env:Env)(h:Heap)(m:Str->Option Value)(x:Str)(u:Value):Prop:=
 (env.kindOf x=some .local/\m x=some u)\/((env.kindOf x=some .cell\/env.kindOf x=some .free)/\∃c,env.cells.lookup x=some c/\h.IsCell c (some u))
structure Cx.Ok(X:Cx):Prop where
 mod:Mod X.K X.mg X.base
 kind:X.env.scope.kind=.function
 glob:X.env.globals=mainGlobals
 blt:X.env.builtins=builtinsNs
 above:X.s₀.heap.objs.size<=X.env.locals
 inj:∀x y c,X.env.cells.lookup x=some c->X.env.cells.lookup y=some c->x=y
 has:∀x,(X.env.kindOf x=some .cell\/X.env.kindOf x=some .free)->∃c,X.env.cells.lookup x=some c
 cab:∀x c,X.fn x=true->X.env.cells.lookup x=some c->X.s₀.heap.objs.size<=c
 hd:X.calm=true->X.A.handled=none
 frames:X.A.frames=some X.stack
 stk:X.stack=X.outer\/(X.stack=X.env::X.outer/\X.env.frame=some X.env.locals)
 exf:∀b∈X.ex,b≠X.env.locals/\∀x c,X.env.cells.lookup x=some c->c≠b
 bs:∀b o,X.base.get? b=some o->X.s₀.heap.get? b=some o/\X.H₀ b=none
 bsz:X.base.objs.size<=X.s₀.heap.objs.size
 noex:∀b o,X.base.get? b=some o->b∉X.ex
 exfs:∀b∈X.ex,b∉X.fs
 funs:X.s₀.heap.FunFrames X.base X.outer
 frf:∀b∈X.fs,X.H₀ b=none
structure Inv(X:Cx)(pins:List (Addr×Obj))(W:List (Option V))(H:Hp)(s:Shared):Prop where
 ok:X.Ok
 os:s.os=X.s₀.os
 bare:AllBare s.gens
 base:Un X.fs X.ex X.H₀ H X.s₀.heap s.heap
 loc:∃m,s.heap.Ns X.env.locals m/\∀(i:Nat)(x:Str)(v:V),X.N[i]? =some x->W[i]? =some (some v)->xT X.env.scope x->∃u,RelV v u/\Look X.env s.heap m x u
 cell:∀x c,X.env.cells.lookup x=some c->∃v,s.heap.IsCell c v
 free:H X.env.locals=none
 freeC:∀x c,X.env.cells.lookup x=some c->H c=none
 pin:∀p∈X.pn++pins,s.heap.get? p.1=some p.2/\H p.1=none/\p.1≠X.env.locals/\p.1∉X.fs/\∀v,p.2.data≠ .cell v
 hok:iG X.prog X.w H s.heap
 len:W.length=X.N.length
section
variable{X:Cx}{pins:List (Addr×Obj)}{W:List (Option V)}{H H':Hp}{s:Shared}{h':Heap}
def Cx.Ok.nofr(ok:X.Ok)(e:X.base.get? b=some o):b∉X.fs:=λh=>by
 have:=(ok.funs.mem h).1
 simp_all
theorem Inv.bs(I:Inv X pins W H s):∀b o,X.base.get? b=some o->s.heap.get? b=some o/\H b=none:=λb o e=>
 ⟨I.base.keep b o (I.ok.bs b o e).1 (I.ok.bs b o e).2 (I.ok.nofr e)<|I.ok.noex b o e,I.base.free b o (I.ok.bs b o e).1 (I.ok.bs b o e).2<|I.ok.noex b o e⟩
def Inv.bk(I:Inv X pins W H s):∀b o,X.base.get? b=some o->s.heap.get? b=some o:=λb o e=>(I.bs b o e).1
theorem Inv.mod(I:Inv X pins W H s):Mod X.K X.mg X.base:=I.ok.mod
def Inv.kIn(I:Inv X pins W H s):X.K.In s.heap:=I.ok.mod.kin.keeps I.bk
theorem Inv.nolimit(I:Inv X pins W H s):s.heap.NoLimit:=I.ok.mod.nolimit.keeps I.bk
theorem Inv.lt(I:Inv X pins W H s):X.env.locals<s.heap.objs.size:=let⟨_,hn,_⟩:=I.loc;hn.lt
def Inv.sz(I:Inv X pins W H s):X.s₀.heap.objs.size<=s.heap.objs.size:=ao I.ok.above<|le_of_lt I.lt
def Inv.nofs(I:Inv X pins W H s)(h:s.heap.objs.size<=a):a∉X.fs:=λJ=>by obtain⟨_,o,ho,_⟩:=I.ok.funs.mem J;exact absurd (av (ai ho)<|ao I.sz h)<|bj _
def Inv.cne(I:Inv X pins W H s):∀x c,X.env.cells.lookup x=some c->c≠X.env.locals:=λx c e z=>by
 obtain⟨v,o,ho,hd⟩:=I.cell x c e;obtain⟨m,⟨o',es,ep,h,J,_⟩,_⟩:=I.loc
 simp_all
theorem Inv.funs(I:Inv X pins W H s):s.heap.FunFrames X.base X.outer:=by
 have all:∀(l:List Env),(∀b∈xr l,b∈X.fs)->X.s₀.heap.FunFrames X.base l->s.heap.FunFrames X.base l:=by
  intro l
  induction l with
  |nil=>intro _ _;trivial
  |cons env r ih=>
   intro Y hl;obtain⟨hk,⟨L,o,Z,hn,ho,hd⟩,hr⟩:=hl;have J:=Y L (by unfold xr;simp_all)
   obtain⟨sl,e⟩:=I.base.slot L o ho (I.ok.frf L J) J λz=>I.ok.exfs L z J;exact⟨hk,⟨L,_,Z,hn,e,hd⟩,ih (λb h=>Y b (by unfold xr;rw[filterMap_cons,Z];exact mem_cons_of_mem _ h)) hr⟩
 exact all X.outer (λ_ h=>h) I.ok.funs
theorem Inv.stack(I:Inv X pins W H s):s.heap.FunFrames X.base X.stack:=by
 rcases I.ok.stk with e|⟨e,hf⟩
 .rw[e];exact I.funs
 .rw[e];obtain⟨m,h,_⟩:=I.loc;refine .cons (by rw[I.ok.kind];decide) hf h ?_ I.funs
  exact Heap.get?_none_of_le<|ao I.ok.bsz I.ok.above
def Inv.stkSub(I:Inv X pins W H s):∀b∈xr X.stack,b∈X.env.locals::X.fs:=λb h=>by
 rcases I.ok.stk with e|⟨e,hf⟩
 .simp_all
 .rw[e] at h;unfold xr at h;rw[filterMap_cons,hf] at h;exact h
def Inv.stkFree(I:Inv X pins W H s):∀b∈xr X.stack,H b=none:=λb h=>by
 rcases mem_cons.mp (I.stkSub b h) with e|h
 .rw[e];exact I.free
 .obtain⟨_,o,ho,_⟩:=I.ok.funs.mem h;exact I.base.free b o ho (I.ok.frf b h) λz=>I.ok.exfs b z h
def Inv.step{g':Array GenState}{d':Drawn}(I:Inv X pins W H s)
  (Y:∀b∈ch,(b∈X.ex\/X.s₀.heap.objs.size<=b)/\b≠X.env.locals/\(∀x c,X.env.cells.lookup x=some c->c≠b)/\∀p∈X.pn++pins,p.1≠b)
  (keep:∀b o,b≠X.env.locals->b∉X.fs->b∉ch->s.heap.get? b=some o->H b=none->h'.get? b=some o)
  (slot:∀b o,b≠X.env.locals->b∈X.fs->b∉ch->s.heap.get? b=some o->H b=none->∃sl,h'.get? b=some {o with slots:=sl})(free:∀b o,b∉ch->s.heap.get? b=some o->H b=none->H' b=none)
  (there:∀b o,b∉ch->s.heap.get? b=some o->∃o',h'.get? b=some o')
  (tups:∀b xs,H b=some (.tup xs)->H' b=some (.tup xs))(frzs:∀b o u,H b=some (.frz o u)->H' b=some (.frz o u))(tbls:∀b ps,H b=some (.tbl ps)->∃more,H' b=some (.tbl<|ps++more))
  (ns:∀m,s.heap.Ns X.env.locals m->h'.Ns X.env.locals m)(hok:iG X.prog X.w H' h')(hg:AllBare g'):
  Inv X pins W H' {s with heap:=h',gens:=g',drawn:=d',toks:=t'}:=by
 have neL:∀b o,X.s₀.heap.get? b=some o->b≠X.env.locals:=λb o e=>al<|av (ai e) I.ok.above
 have Z:∀b o,X.s₀.heap.get? b=some o->b∉X.ex->b∉ch:=λb o e h hb=>by
  rcases(Y b hb).1 with z|z
  .exact h z
  .exact absurd (av (ai e) z)<|bj _
 have cellK:∀x c,X.env.cells.lookup x=some c->∀v,s.heap.IsCell c v->h'.IsCell c v:=λx c e v hp=>by
  obtain⟨o,ho,hd⟩:=hp;have J:c∉ch:=λz=>(Y c z).2.2.1 x c e rfl;by_cases hc:c∈X.fs
  .obtain⟨sl,q⟩:=slot c o (I.cne x c e) hc J ho<|I.freeC x c e;exact⟨_,q,hd⟩
  .exact⟨o,keep c o (I.cne x c e) hc J ho<|I.freeC x c e,hd⟩
 refine⟨I.ok,I.os,hg,⟨λb o e n hb h=>?_,λb o e n hb h=>?_,λb o e n h=>?_,λb o e h=>?_,λb xs e=>tups b xs<|I.base.tups b xs e,λb o xs e=>frzs b o xs<|I.base.frzs b o xs e,λb ps e=>?_⟩,?_,λx c e=>?_,?_,λx c e=>?_,λp hp=>?_,hok,I.len⟩
 .exact keep b o (neL b o e) hb (Z b o e h) (I.base.keep b o e n hb h)<|I.base.free b o e n h
 .obtain⟨sl,e1⟩:=I.base.slot b o e n hb h;obtain⟨sl',e2⟩:=slot b _ (neL b o e) hb (Z b o e h) e1<|I.base.free b o e n h;exact⟨sl',e2⟩
 .obtain⟨o',e1⟩:=I.base.there b o e h;exact free b o' (Z b o e h) e1<|I.base.free b o e n h
 .obtain⟨o',e1⟩:=I.base.there b o e h;exact there b o' (Z b o e h) e1
 .obtain⟨m1,e1⟩:=I.base.tbls b ps e;obtain⟨m2,e2⟩:=tbls b _ e1;exact⟨m1++m2,by rw[e2,Array.append_assoc]⟩
 .obtain⟨m,hn,hl⟩:=I.loc;refine⟨m,ns m hn,λi x v e1 e2 e3=>?_⟩;obtain⟨u,r,l⟩:=hl i x v e1 e2 e3;refine⟨u,r,?_⟩;rcases l with l|⟨k,c,e,z⟩
  .exact .inl l
  .exact .inr ⟨k,c,e,cellK x c e _ z⟩
 .obtain⟨v,z⟩:=I.cell x c e;exact⟨v,cellK x c e v z⟩
 .obtain⟨m,⟨o,_,_,ho,_⟩,_⟩:=I.loc;exact free _ o (λz=>(Y _ z).2.1 rfl) ho I.free
 .obtain⟨v,o,ho,hd⟩:=I.cell x c e;exact free c o (λz=>(Y c z).2.2.1 x c e rfl) ho<|I.freeC x c e
 .obtain⟨e,n,ne,nf,d⟩:=I.pin p hp;have J:p.1∉ch:=λz=>(Y p.1 z).2.2.2 p hp rfl;exact⟨keep p.1 p.2 ne nf J e n,free p.1 p.2 J e n,ne,nf,d⟩
def Inv.un(I:Inv X pins W H s)(u:Un X.fs [] H H' s.heap h')(J:iG X.prog X.w H' h'):Inv X pins W H' {s with heap:=h',toks:=t'}:=by
 obtain⟨m,⟨o,es,ep,ho,r⟩,_⟩:=id I.loc;obtain⟨sl,hL⟩:=u.any ho I.free (by simp)
 exact I.step (ch:=[]) (λ_ z=>nomatch z) (λb o _ Y _ e n=>u.keep b o e n Y (by simp)) (λb o _ Y _ e n=>u.slot b o e n Y (by simp)) (λb o _ e n=>u.free b o e n (by simp)) (λb o _ e=>u.there b o e (by simp)) u.tups u.frzs u.tbls (λm' hm=>by obtain⟨o',Z,ep',h,r'⟩:=hm;rw[ho] at h;cases h;exact⟨_,Z,ep',hL,r'⟩) J I.bare
def Inv.call{g':Array GenState}{d':Drawn}(I:Inv X pins W H s)(u:Un (xr X.stack) ch H H' s.heap h')(Z:iG X.prog X.w H' h')(hg:AllBare g')
  (Y:∀b∈ch,(b∈X.ex\/X.s₀.heap.objs.size<=b)/\b≠X.env.locals/\(∀x c,X.env.cells.lookup x=some c->c≠b)/\∀p∈X.pn++pins,p.1≠b):
  Inv X pins W H' {s with heap:=h',gens:=g',drawn:=d',toks:=t'}:=by
 obtain⟨m,⟨o,es,ep,ho,r⟩,_⟩:=id I.loc;obtain⟨sl,hL⟩:=u.any ho I.free λz=>(Y _ z).2.1 rfl
 exact I.step Y (λb o hL hb h e n=>u.keep b o e n (λz=>(mem_cons.mp<|I.stkSub b z).elim hL hb) h) (λb o _ _ h e n=>u.any e n h) (λb o h e n=>u.free b o e n h) (λb o h e=>u.there b o e h) u.tups u.frzs u.tbls (λm' hm=>by obtain⟨o',es',ep',J,r'⟩:=hm;rw[ho] at J;cases J;exact⟨_,es',ep',hL,r'⟩) Z hg
def Inv.turned(I:Inv X pins W H s)(k:∀b o,b≠it->s.heap.get? b=some o->h'.get? b=some o)(hn:H it=none)(hL:it≠X.env.locals)
  (h1:it∈X.ex\/X.s₀.heap.objs.size<=it)(h2:∀x c,X.env.cells.lookup x=some c->c≠it)(h3:∀p∈X.pn++pins,p.1≠it):Inv X pins W H {s with heap:=h',toks:=t'}:=by
 have J:∀b u,H b=some u->b≠it:=λb u e z=>by simp_all
 refine I.step (g':=s.gens) (d':=s.drawn) (ch:=[it]) (λb Z=>?_) (λb o _ _ h e _=>k b o (λz=>h (by simp[z])) e) (λb o _ _ h e _=>⟨o.slots,k b o (λz=>h (by simp[z])) e⟩) (λ_ _ _ _ n=>n)
  (λb o h e=>⟨o,k b o (λz=>h (by simp[z])) e⟩) (λ_ _ e=>e) (λ_ _ _ e=>e) (λb ps e=>⟨#[],by rw[e];simp⟩) (λm Y=>?_) (λb u e=>?_) I.bare
 .have e:b=it:=by simpa using Z
  cases e;trivial
 .obtain⟨o,es,ep,ho,r⟩:=Y;exact⟨o,es,ep,k _ o (Ne.symm hL) ho,r⟩
 .refine(I.hok b u e).stay (λc v h q=>k c v ?_ q) (λ_ q=>q) λ_ _ q=>q;rcases h with z|z
  .rw[z];exact J b u e
  .exact J c _ z
def Inv.tok(I:Inv X pins W H s)(t:Nat):Inv X pins W H {s with toks:=t}:=I.un (h':=s.heap) (t':=t) Un.refl I.hok
theorem Inv.kept(I:Inv X pins W H s)(k:∀b u,s.heap.get? b=some u->h'.get? b=some u):Inv X pins W H {s with heap:=h',toks:=t'}:=I.un (Un.kept k)<|I.hok.kept k
theorem Inv.laid{o:HO}(I:Inv X pins W H s)(k:∀b u,s.heap.get? b=some u->h'.get? b=some u)(h:s.heap.objs.size<=a)(new:bL X.prog X.w (upd H a o) h' a o):
  Inv X pins W (upd H a o) {s with heap:=h',toks:=t'}:=I.un (Un.laid k h<|I.hok.fresh h)<|I.hok.laid k h new
theorem Inv.write{x e:Addr}{o:HO}(I:Inv X pins W H s)(J:ET (H x))(Y:e=x\/H e=some (.own x))(k:∀b u,b≠e->s.heap.get? b=some u->h'.get? b=some u)(h:∃u,h'.get? e=some u)
  (new:bL X.prog X.w (upd H x o) h' x o):Inv X pins W (upd H x o) {s with heap:=h',toks:=t'}:=I.un (Un.write J Y k h)<|I.hok.write J Y k h new
def Inv.pins_of(I:Inv X pins W H s)(h:∀p∈pins',s.heap.get? p.1=some p.2/\H p.1=none/\p.1≠X.env.locals/\p.1∉X.fs/\∀v,p.2.data≠ .cell v):Inv X pins' W H s:=
 ⟨I.ok,I.os,I.bare,I.base,I.loc,I.cell,I.free,I.freeC,λp J=>(mem_append.mp J).elim (λz=>I.pin p<|List.mem_append_left _ z)<|h p,I.hok,I.len⟩
def pI{N:List Str}(h:N.Nodup)(a:N[i]? =some x)(b:N[j]? =some x):i=j:=by obtain⟨h1,e1⟩:=au a;obtain⟨J,I⟩:=au b;exact(List.getElem_inj h).mp<|e1.trans I.symm
def jk{M:Model}{Q:Unit->Shared->Prop}(I:Inv X pins W H s)(hN:X.N.Nodup)(hi:X.N[i]? =some x)(Z:Loc X.env.scope x)(r:RelV v u)
  (h:∀s',Inv X pins (W.set i<|some v) H s'->(∃a,Heap.SameBut a s.heap s'.heap/\(a=X.env.locals\/X.env.cells.lookup x=some a))->Q () s')(hf:X.fn x=true\/X.env.scope.names.lookup x=some .local:=by first|exact .inl rfl|exact .inr rfl|assumption):wpAny M A (storeName X.env x u) Q E s:=by
 obtain⟨m,hn,hl⟩:=id I.loc;have hcls:(X.env.scope.kind== .class||(X.env.scope.kind== .module&&X.env.locals !=X.env.globals))=false:=by rw[I.ok.kind];rfl
 have hiW:i<W.length:=by rw[I.len];exact(au hi).1
 have cne:=I.cne
 have tracked:∀{a:Addr}{h':Heap},(∃o,s.heap.get? a=some o/\H a=none)->Heap.SameBut a s.heap h'->iG X.prog X.w H h':=λ{a h'} ha J b ob e=>by
  obtain⟨_,_,hfree⟩:=ha;refine(I.hok b ob e).stay (λc w' Y q=>(J.2 c ?_).trans q) (λ_ q=>q) λ_ _ q=>q;rintro rfl;rcases Y with rfl|Y
  .rw[hfree] at e;cases e
  .rw[hfree] at Y;cases Y
 rcases Z with hk|hk
 .refine wpAny_storeName_local hk hn (λh' hn' J=>?_) hcls;obtain⟨oL,_,_,hoL,_⟩:=id hn;refine h _ ⟨I.ok,I.os,I.bare,⟨λb o e n hb Z=>?_,λb o e n hb Z=>?_,I.base.free,λb o e Z=>?_,I.base.tups,I.base.frzs,I.base.tbls⟩,⟨_,hn',λj y v' e1 e2 e3=>?_⟩,λy c e=>?_,I.free,I.freeC,λp hp=>?_,tracked ⟨oL,hoL,I.free⟩ J,by simpa using I.len⟩ ⟨_,J,.inl rfl⟩
  .exact(J.2 b<|al<|av (ai e) I.ok.above).trans<|I.base.keep b o e n hb Z
  .obtain⟨sl,e1⟩:=I.base.slot b o e n hb Z;exact⟨sl,(J.2 b<|al<|av (ai e) I.ok.above).trans e1⟩
  .obtain⟨o',e1⟩:=I.base.there b o e Z;exact⟨o',(J.2 b<|al<|av (ai e) I.ok.above).trans e1⟩
  .by_cases hj:j=i
   .cases hj;rw[hi] at e1;cases e1;rw[aY hiW] at e2;cases e2;exact⟨u,r,.inl ⟨hk,by simp⟩⟩
   .rw[aS<|Ne.symm hj] at e2;obtain⟨u',r',q⟩:=hl j y v' e1 e2 e3;refine⟨u',r',?_⟩;rcases q with⟨k,e⟩|⟨k,c,e,z⟩
    .refine .inl ⟨k,?_⟩;have:y≠x:=λe=>hj<|pI hN e1<|e▸hi;simp[this,e]
    .exact .inr ⟨k,c,e,z.sameBut J<|cne y c e⟩
  .obtain⟨w',z⟩:=I.cell y c e;exact⟨w',z.sameBut J<|cne y c e⟩
  .obtain⟨e,n,ne,nf,d⟩:=I.pin p hp;exact⟨(J.2 p.1 ne).trans e,n,ne,nf,d⟩
 .have hfn:X.fn x=true:=by
   rcases hf with z|z
   .exact z
   .rw[z] at hk;cases hk
  obtain⟨c,Y⟩:=I.ok.has x<|.inl hk;obtain⟨w',z⟩:=I.cell x c Y;refine wpAny_storeName_cell I.ok.kind hk Y z<|λh' hc' J=>?_;obtain⟨oc,hoc,hocd⟩:=id z;refine h {s with heap:=h'} ⟨I.ok,I.os,I.bare,⟨λb o e n hb Z=>?_,λb o e n hb Z=>?_,I.base.free,λb o e Z=>?_,I.base.tups,I.base.frzs,I.base.tbls⟩,⟨m,hn.sameBut J<|Ne.symm<|cne x c Y,λj y v' e1 e2 e3=>?_⟩,λy c' e=>?_,I.free,I.freeC,λp hp=>?_,tracked ⟨oc,hoc,I.freeC x c Y⟩ J,by simpa using I.len⟩ ⟨c,J,.inr Y⟩
  .exact(J.2 b<|al<|av (ai e)<|I.ok.cab x c hfn Y).trans<|I.base.keep b o e n hb Z
  .obtain⟨sl,e1⟩:=I.base.slot b o e n hb Z;exact⟨sl,(J.2 b<|al<|av (ai e)<|I.ok.cab x c hfn Y).trans e1⟩
  .obtain⟨o',e1⟩:=I.base.there b o e Z;exact⟨o',(J.2 b<|al<|av (ai e)<|I.ok.cab x c hfn Y).trans e1⟩
  .by_cases hj:j=i
   .subst hj;rw[hi] at e1;cases e1;rw[aY hiW] at e2;cases e2;exact⟨u,r,.inr ⟨.inl hk,c,Y,hc'⟩⟩
   .rw[aS<|Ne.symm hj] at e2;obtain⟨u',r',q⟩:=hl j y v' e1 e2 e3;refine⟨u',r',?_⟩;rcases q with q|⟨k,c',e,z'⟩
    .exact .inl q
    .refine .inr ⟨k,c',e,z'.sameBut J ?_⟩;rintro rfl;exact hj<|pI hN e1<|I.ok.inj _ _ _ e Y▸hi
  .by_cases hcc:c'=c
   .subst hcc;exact⟨_,hc'⟩
   .obtain⟨w2,z2⟩:=I.cell y c' e;exact⟨w2,z2.sameBut J hcc⟩
  .obtain⟨e,n,ne,nf,d⟩:=I.pin p hp;refine⟨(J.2 p.1 ?_).trans e,n,ne,nf,d⟩;intro q;rw[q,hoc] at e;have q':oc=p.2:=ak e;exact d w' (by rw[<-q'];exact hocd)
def k8{M:Model}{Q:Unit->Shared->Prop}(I:Inv X pins W H s)(Z:X.N.Nodup)(hi:X.N[i]? =some x)(J:Loc X.env.scope x)(r:RelV v u)
  (h:∀s',Inv X pins (W.set i<|some v) H s'->Q () s')(Y:X.fn x=true\/X.env.scope.names.lookup x=some .local:=by first|exact .inl rfl|exact .inr rfl|assumption):wpAny M A (storeName X.env x u) Q E s:=
 jk I Z hi J r (λs' I' _=>h s' I') Y
def Inv.call'{s':Shared}(I:Inv X pins W H s)(ho:s'.os=s.os)(u:Un (xr X.stack) ch H H' s.heap s'.heap)(h:iG X.prog X.w H' s'.heap)(Y:AllBare s'.gens)
  (J:∀b∈ch,(b∈X.ex\/X.s₀.heap.objs.size<=b)/\b≠X.env.locals/\(∀x c,X.env.cells.lookup x=some c->c≠b)/\∀p∈X.pn++pins,p.1≠b):Inv X pins W H' s':=by
 obtain⟨h',g',d',t',o'⟩:=s';have e:=ho;subst e;exact I.call u h Y J
end
abbrev XK:=Value->Option Addr->Hp->Prop
noncomputable abbrev St:=List<|Option V
abbrev VK:=V->Hp->Prop
abbrev TE:=St->Hp->VK->Prop
abbrev TT:=St->Hp->(Bool->Hp->Prop)->Prop
abbrev TA:=St->Hp->(List V->Hp->Prop)->Prop
structure Ends where
 nx:St->Hp->Prop
 rt:VK
 bk:St->Hp->Prop:=λ_ _=>False
 ct:St->Hp->Prop:=λ_ _=>False
abbrev TS:=Ends->St->Hp->Prop
def EP(X:Cx)(pins:List (Addr×Obj))(W:St)(Q:VK)(u:Value)(s':Shared):Prop:=∃v H',Inv X pins W H' s'/\RelV v u/\Q v H'
def TP(X:Cx)(pins:List (Addr×Obj))(W:St)(Q:Bool->Hp->Prop)(b:Bool)(s':Shared):Prop:=∃H',Inv X pins W H' s'/\Q b H'
def AP(X:Cx)(pins:List (Addr×Obj))(W:St)(Q:List V->Hp->Prop)(us:List Value)(s':Shared):Prop:=∃vs H',Inv X pins W H' s'/\bq vs us/\Q vs H'
def SP(X:Cx)(pins:List (Addr×Obj))(D:Ends)(f:Flow)(s':Shared):Prop:=
 match f with
 | .next=>∃W' H',Inv X pins W' H' s'/\D.nx W' H'
 | .brk=>∃W' H',Inv X pins W' H' s'/\D.bk W' H'
 | .cont=>∃W' H',Inv X pins W' H' s'/\D.ct W' H'
 | .ret u=>∃v W' H',Inv X pins W' H' s'/\RelV v u/\D.rt v H'
def PE(X:Cx)(e:Expr)(t:TE):Prop:=
 ∀(pins:List (Addr×Obj))(s:Shared)(W:St)(H:Hp)(Q:VK),Inv X pins W H s->t W H Q->wpAny (model X.prog X.w) X.A (eval e X.env) (EP X pins W Q) X.xe s
def PT(X:Cx)(e:Expr)(t:TT):Prop:=
 ∀(pins:List (Addr×Obj))(s:Shared)(W:St)(H:Hp)(Q:Bool->Hp->Prop),Inv X pins W H s->t W H Q->wpAny (model X.prog X.w) X.A (isTrue e X.env<|eval e X.env) (TP X pins W Q) X.xe s
def PW(X:Cx)(e:Expr)(t:TT):Prop:=
 ∀(whole:Sem Value)(pins:List (Addr×Obj))(s:Shared)(W:St)(H:Hp)(Q:Bool->Hp->Prop),Inv X pins W H s->t W H Q->wpAny (model X.prog X.w) X.A (isTrue e X.env whole) (TP X pins W Q) X.xe s
def PW.pt{t:TT}(h:PW X e t):PT X e t:=h _
def PA(X:Cx)(es:List Expr)(t:TA):Prop:=
 ∀(pos:Pos)(pins:List (Addr×Obj))(s:Shared)(W:St)(H:Hp)(Q:List V->Hp->Prop),Inv X pins W H s->t W H Q->wpAny (model X.prog X.w) X.A (spliced<|backTo pos<|starEach es X.env) (AP X pins W Q) X.xe s
def PS(X:Cx)(st:Stmt)(t:TS):Prop:=
 ∀(pins:List (Addr×Obj))(s:Shared)(W:St)(H:Hp)(D:Ends),Inv X pins W H s->t D W H->wpAny (model X.prog X.w) X.A (exec st X.env) (SP X pins D) X.xe s
def PSs(X:Cx)(st:List Stmt)(t:TS):Prop:=
 ∀(pins:List (Addr×Obj))(s:Shared)(W:St)(H:Hp)(D:Ends),Inv X pins W H s->t D W H->wpAny (model X.prog X.w) X.A (execs st X.env) (SP X pins D) X.xe s
def bR{α:Type}{t:Sem α}{Q I:α->Shared->Prop}{M:Model}(h:wpAny M A t Q E s)(J:∀a s,Q a s->I a s):wpAny M A t I E s:=aO h J λ_ _ x=>x
section
variable{X:Cx}
def qH(i:Nat):TE:=λW H Q=>∃v,W[i]? =some (some v)/\Q v H
def tC(v:V):TE:=λ_ H Q=>Q v H
def q_(hN:X.N[i]? =some x)(Y:xT X.env.scope x)(hd:(x==("__debug__":Str))=false:=by decide)(hcd:(x==("__classdict__":Str))=false:=by decide):PE X (.Name x pos) (qH i):=by
 intro pins s W H Q I h;obtain⟨v,e,h⟩:=h;obtain⟨m,Z,hl⟩:=I.loc;obtain⟨u,r,l⟩:=hl i x v hN e Y;have J:EP X pins W Q u s:=⟨v,H,I,r,h⟩;rcases l with⟨hk,hm⟩|⟨hk,c,hc,hcell⟩
 .exact wpAny_Name (wpAny_loadName_local I.ok.kind hk Z hm J) hd
 .rcases hk with hk|hk
  .exact wpAny_Name (wpAny_loadName_cell I.ok.kind hk hc hcell J) hd
  .exact wpAny_Name (wpAny_loadName_free I.ok.kind hk hc hcell J hcd) hd
def re{i j pos}:PE X (.Constant (.int i) j pos) (tC<|.int i):=λ_ _ _ H _ I h=>wpAny_Constant_int ⟨.int i,H,I.tok _,⟨_,rfl⟩,h⟩
def DO{b j pos}:PE X (.Constant (.bool b) j pos) (tC<|.bl b):=λ_ _ _ H _ I h=>Constant_bool ⟨.bl b,H,I,rfl,h⟩
def BC{j pos}:PE X (.Constant .none j pos) (tC .non):=λ_ _ _ H _ I h=>Constant_none ⟨.non,H,I,rfl,h⟩
def wz{x j pos}:PE X (.Constant (.str x) j pos) (tC<|.str x):=λ_ _ _ H _ I h=>Calls.Constant_str ⟨.str x,H,I.tok _,⟨_,rfl⟩,h⟩
def Gl(X:Cx)(x:Str):Prop:=X.env.kindOf x=some .globalImplicit
def ou{W:St}{H:Hp}(I:Inv X pins W H s)(Y:Gl X x)(J:X.mg x=some u)(h:Q u s)
  (hd:(x==("__debug__":Str))=false:=by decide):wpAny (model X.prog X.w) X.A (eval (.Name x pos) X.env) Q E s:=
 Calls.Name_function_global I.ok.kind Y (Calls.loadGlobal_global (by rw[I.ok.glob];exact I.mod.glob.keeps I.bk) J h) hd
def fF{W:St}{H:Hp}(I:Inv X pins W H s)(hg:Gl X x)(Z:X.mg x=none)(J:bootBuiltins x=some u)(h:Q u s)
  (Y:x≠ "__name__":=by decide) (hd:(x==("__debug__":Str))=false:=by decide):wpAny (model X.prog X.w) X.A (eval (.Name x pos) X.env) Q E s:=by
 obtain⟨mb,h1,h2⟩:=I.mod.blt;exact Calls.Name_function_global I.ok.kind hg (Calls.loadGlobal_builtin (by rw[I.ok.glob];exact I.mod.glob.keeps I.bk) Z (by rw[I.ok.blt];exact h1.keeps I.bk) ((h2 x Y).trans J) h) hd
def sO(Y:Gl X x)(J:X.mg x=some u)(r:RelV v u)(hd:(x==("__debug__":Str))=false:=by decide):PE X (.Name x pos) (tC v):=
 λ_ _ _ H _ I h=>ou I Y J ⟨v,H,I,r,h⟩ hd
def y8(hg:Gl X x)(Z:X.mg x=none)(J:bootBuiltins x=some u)(r:RelV v u)(Y:x≠ "__name__":=by decide)(hd:(x==("__debug__":Str))=false:=by decide):PE X (.Name x pos) (tC v):=
 λ_ _ _ H _ I h=>fF I hg Z J ⟨v,H,I,r,h⟩ Y hd
variable{a b:Expr}{ta tb:TE}{pos:Pos}
def PC(X:Cx)(op:CmpOp)(a b:Expr)(t:TE):Prop:=
 ∀(pins:List (Addr×Obj))(s:Shared)(W:St)(H:Hp)(Q:VK),Inv X pins W H s->t W H Q->
  wpAny (model X.prog X.w) X.A (eval a X.env) (λv s₁=>wpAny (model X.prog X.w) X.A (eval b X.env) (λu s₂=>wpAny (model X.prog X.w) X.A (compareOp op v u) (EP X pins W Q) X.xe s₂) X.xe s₁) X.xe s
def tB(t:TE):TT:=λW H Q=>t W H λx H1=>∃c,x=.bl c/\Q c H1
def BG{op:CmpOp}{t:TE}(h:PC X op a b t)(h1:behindInMarks op b=false:=by first|exact nobehind _ (by decide) (by decide)|rfl):PE X (.Compare a [op] [b] pos) t:=λpins s W H Q I J=>wpAny_Compare1 (h pins s W H Q I J) h1
def Br{op:CmpOp}{t:TE}(h:PC X op a b t)(h1:behindInMarks op b=false:=by first|exact nobehind _ (by decide) (by decide)|rfl):PT X (.Compare a [op] [b] pos) (tB t):=by intro pins s W H Q I J;refine wpAny_isTrue_Compare1 (bR (h pins s W H _ I J) λv s1 h1=>bR h1 λu s2 Y=>bR Y λc Z ⟨x,H1,I1,r1,q1⟩=>?_) h1;obtain⟨d,rfl,q⟩:=q1;subst r1;exact wpAny_truthy_bool ⟨H1,I1,q⟩
def Bp{t:TE}(h:PE X e t)(Y:∀whole,isTrue e X.env whole=(do let v <-whole;standAt e.pos;holding [v]<|truthy v):=by intro _;rfl):PT X e (tB t):=by intro pins s W H Q I J;refine isTrue_plain (bR (h pins s W H _ I J) λv Z ⟨x,H1,I1,r1,q1⟩=>?_)<|Y _;obtain⟨d,rfl,q⟩:=q1;subst r1;exact wpAny_truthy_bool ⟨H1,I1,q⟩
variable{tA tB':TT}{rest:List Expr}
def Fx(t u:TT):TT:=λW H Q=>t W H λc H1=>if c=true then u W H1 Q else Q false H1
def GP(t u:TT):TT:=λW H Q=>t W H λc H1=>if c=true then Q true H1 else u W H1 Q
def Fo(t:TT):TT:=λW H Q=>t W H λc H1=>Q (!c) H1
def yT(J:PT X a tA):PW X (.BoolOp .And [a] pos) tA:=by
 intro Y pins s W H Q I h;refine isTrue_and<|bR (J pins s W H Q I h) λc Z e=>?_;cases c with
 |true=>exact isTrue_and_nil e
 |false=>exact e
def Bm(J:PT X a tA):PW X (.BoolOp .Or [a] pos) tA:=by
 intro Y pins s W H Q I h;refine isTrue_or<|bR (J pins s W H Q I h) λc Z e=>?_;cases c with
 |false=>exact isTrue_or_nil e
 |true=>exact e
def Bn(ha:PT X a tA)(Z:PW X (.BoolOp .And (b::rest) pos) tB'):PW X (.BoolOp .And (a::b::rest) pos) (Fx tA tB'):=by
 intro J pins s W H Q I h;refine isTrue_and<|bR (ha pins s W H _ I h) λc Y ⟨H1,I1,q1⟩=>?_;cases c with
 |true=>exact Z J pins Y W H1 Q I1 q1
 |false=>trivial
def DI(ha:PT X a tA)(Z:PW X (.BoolOp .Or (b::rest) pos) tB'):PW X (.BoolOp .Or (a::b::rest) pos) (GP tA tB'):=by
 intro J pins s W H Q I h;refine isTrue_or<|bR (ha pins s W H _ I h) λc Y ⟨H1,I1,q1⟩=>?_;cases c with
 |true=>trivial
 |false=>exact Z J pins Y W H1 Q I1 q1
def Bq(J:PT X a tA):PT X (.UnaryOp .Not a pos) (Fo tA):=by intro pins s W H Q I h;exact isTrue_not<|J pins s W H _ I h
def Ds(ta tb:TE):TE:=λW H Q=>ta W H λx H1=>∃c,x=.bl c/\if c=true then tb W H1 Q else Q (.bl false) H1
def Fm(ta tb:TE):TE:=λW H Q=>ta W H λx H1=>∃c,x=.bl c/\if c=true then Q (.bl true) H1 else tb W H1 Q
def Dk(ta:TE):TE:=λW H Q=>ta W H λx H1=>∃c,x=.bl c/\Q (.bl<|!c) H1
def BA{op}{t:TE}(h:PE X a t):PE X (.BoolOp op [a] pos) t:=λpins s W H Q I J=>BoolOp_one<|h pins s W H Q I J
def BI(ha:PE X a ta)(hb:PE X (.BoolOp .And (b::rest) pos) tb):PE X (.BoolOp .And (a::b::rest) pos) (Ds ta tb):=by
 intro pins s W H Q I h;refine BoolOp_and<|bR (ha pins s W H _ I h) λv Y hp=>?_;obtain⟨x,H1,J,Z,q1⟩:=hp;obtain⟨c,rfl,q1⟩:=q1;subst Z;refine wpAny_truthy_bool ?_;cases c with
 |true=>exact hb pins Y W H1 Q J q1
 |false=>exact⟨.bl false,H1,J,rfl,q1⟩
def DM(ha:PE X a ta)(hb:PE X (.BoolOp .Or (b::rest) pos) tb):PE X (.BoolOp .Or (a::b::rest) pos) (Fm ta tb):=by
 intro pins s W H Q I h;refine BoolOp_or<|bR (ha pins s W H _ I h) λv Y hp=>?_;obtain⟨x,H1,J,Z,q1⟩:=hp;obtain⟨c,rfl,q1⟩:=q1;subst Z;refine wpAny_truthy_bool ?_;cases c with
 |false=>exact hb pins Y W H1 Q J q1
 |true=>exact⟨.bl true,H1,J,rfl,q1⟩
def BB(Z:PE X a ta):PE X (.UnaryOp .Not a pos) (Dk ta):=by intro pins s W H Q I h;refine UnaryOp_<|bR (Z pins s W H _ I h) λv s1 Y=>?_;obtain⟨x,H1,I1,J,q1⟩:=Y;obtain⟨c,rfl,q1⟩:=q1;subst J;exact not_of<|wpAny_truthy_bool ⟨.bl<|!c,H1,I1,rfl,q1⟩
end
def dG(K:aw)(H:Hp)(a:Addr)(xs:List V):Prop:=
 Rd H a (.lst xs)\/
  ∃(o:Obj)(its:Array Value)(n:Nat),K.lookup a=some o/\o.cls=.type "list" /\o.dict=none/\o.data=.seq its n/\its.size<=sizeLine/\bq xs its.toList
def dY(K:aw)(H:Hp)(a:Addr)(xs:List V):Prop:=
 Rd H a (.tup xs)\/
  ∃(o:Obj)(its:Array Value)(n:Nat),K.lookup a=some o/\(o.cls=.type "tuple" /\o.dict=none)/\o.data=.seq its n/\its.size<=sizeLine/\bq xs its.toList
noncomputable def F_:Value->Option V
 | .none=>some .non
 | .bool b=>some<|.bl b
 | .int i _=>some<|.int i
 | .str x _=>some<|.str x
 | .bytes b _=>some<|.byt b
 | .float b _=>some<|.flt b
 | .ref a=>some<|.ref a
 | .type n=>some<|.ty n
 |_=>none
def RelV.abs{x:V}(r:RelV x u):F_ u=some x:=by
 cases x with
 |int _=>obtain⟨t,rfl⟩:=r;rfl
 |str _=>obtain⟨t,rfl⟩:=r;rfl
 |byt _=>obtain⟨t,rfl⟩:=r;rfl
 |flt _=>obtain⟨t,rfl⟩:=r;rfl
 |_=>subst r;rfl
def RelV.inj{x y:V}(r:RelV x u)(q:RelV y u):x=y:=ak<|r.abs.symm.trans q.abs
theorem bq.inj:∀{xs ys:List V}{us:List Value},bq xs us->bq ys us->xs=ys
 |_,_,_,.nil,.nil=>rfl
 |_,_,_,.cons r t,.cons r' t'=>by rw[r.inj r',bq.inj t t']
section
variable{X:Cx}{pins:List (Addr×Obj)}{W:St}{H:Hp}{s:Shared}{a:Addr}{xs ys:List V}
def dG.of{K:aw}(h:H a=some (.lst xs)):dG K H a xs:= .inl<|.inl h
def dY.of{K:aw}(h:H a=some (.tup xs)):dY K H a xs:= .inl<|.inl h
def Inv.list(I:Inv X pins W H s)(h:dG X.K H a xs):∃its:List Value,bq xs its/\PlainL s.heap a its.toArray/\xs.length<=sizeLine:=by
 rcases h with h|⟨o,its,n,hk,hc,hd,hs,hz,r⟩
 .obtain⟨z,its,n,r,e⟩:=h.ok I.hok;exact⟨its,r,⟨_,n,e,rfl,rfl,rfl⟩,z⟩
 .refine⟨its.toList,r,⟨o,n,I.kIn a o hk,hc,hd,by omega⟩,?_⟩
  have e:=r.length
  simp_all
def Inv.tuple(I:Inv X pins W H s)(h:dY X.K H a xs):∃its:List Value,bq xs its/\IsTup s.heap a its.toArray/\xs.length<=sizeLine:=by
 rcases h with h|⟨o,its,n,hk,hc,hs,hz,r⟩
 .obtain⟨z,its,r,p⟩:=h.ok I.hok;exact⟨its,r,p.tup,z⟩
 .refine⟨its.toList,r,⟨o,I.kIn a o hk,hc.1,n,by omega⟩,?_⟩
  have e:=r.length
  simp_all
def Inv.list_inj(I:Inv X pins W H s)(h:dG X.K H a xs)(h':dG X.K H a ys):xs=ys:=by
 obtain⟨its,r,⟨o,n,e,_,_,d⟩,_⟩:=I.list h;obtain⟨its',J,⟨o',Y,e',_,_,d'⟩,_⟩:=I.list h';rw[e] at e';have:its=its':=by simp_all
 subst this;exact r.inj J
def Inv.tuple_inj(I:Inv X pins W H s)(h:dY X.K H a xs)(h':dY X.K H a ys):xs=ys:=by
 obtain⟨its,r,⟨o,e,_,n,d⟩,_⟩:=I.tuple h;obtain⟨its',J,⟨o',e',_,Y,d'⟩,_⟩:=I.tuple h';rw[e] at e';have:its=its':=by simp_all
 subst this;exact r.inj J
end
section
end
section
variable{X:Cx}{st:Stmt}{rest:List Stmt}{t u:TS}{e:Expr}{te:TE}{pos:Pos}
def Dl:TS:=λD W H=>D.nx W H
def Dj(t u:TS):TS:=λD W H=>t {D with nx:=u D} W H
def yV:PSs X [] Dl:=λ_ _ W H _ I h=>wpAny_execs_nil ⟨W,H,I,h⟩
def pF(h1:PS X st t)(Y:PSs X rest u):PSs X (st::rest) (Dj t u):=by
 intro pins s W H D I h;refine wpAny_execs_cons<|bR (h1 pins s W H {D with nx:=u D} I h) λf J q=>?_;cases f with
 |next=>obtain⟨W',H',Z,q⟩:=q;exact Y pins J W' H' D Z q
 |_=>exact q
def Inv.quiet{W:St}{H:Hp}(I:Inv X pins W H s):interactive X.env=false:=by simp[interactive,I.ok.kind]
def Do(te:TE):TS:=λD W H=>te W H λ_ H1=>D.nx W H1
def kz(Y:PE X e te)(J:swapsWith e none pos.line X.env=pure false:=by rfl):PS X (.Expr e pos) (Do te):=by intro pins s W H D I h;exact wpAny_Expr_any (bR (Y pins s W H _ I h) λv Z ⟨x,H1,I1,r1,q1⟩=>⟨W,H1,I1,q1⟩) I.quiet J
def Fk(te:TE):TS:=λD W H=>te W H D.rt
def Bs(J:PE X e te):PS X (.Return (some e) pos) (Fk te):=by intro pins s W H D I h;exact wpAny_Return_some<|bR (J pins s W H _ I h) λv Y ⟨x,H1,I1,r1,q1⟩=>⟨x,W,H1,I1,r1,q1⟩
def Fs(c:TT)(t u:TS):TS:=λD W H=>c W H λb H1=>if b=true then t D W H1 else u D W H1
def DJ{a b:List Stmt}{tc:TT}(Y:PT X c tc)(ha:PSs X a t)(Z:PSs X b u):PS X (.If c a b pos) (Fs tc t u):=by
 intro pins s W H D I h;refine wpAny_If<|bR (Y pins s W H _ I h) λd J ⟨H1,I1,q1⟩=>?_;cases d with
 |true=>exact ha pins J W H1 D I1 q1
 |false=>exact Z pins J W H1 D I1 q1
end
abbrev TG:=V->St->Hp->(St->Hp->Prop)->Prop
abbrev ya:=List V->St->Hp->(St->Hp->Prop)->Prop
def PG(X:Cx)(target:Expr)(t:TG):Prop:=
 ∀(pins:List (Addr×Obj))(s:Shared)(W:St)(H:Hp)(v:V)(u:Value)(Q:St->Hp->Prop),Inv X pins W H s->RelV v u->t v W H Q->
  wpAny (model X.prog X.w) X.A (assign target X.env u) (λ_ s'=>∃W' H',Inv X pins W' H' s'/\Q W' H') X.xe s
def CQ(X:Cx)(ts:List Expr)(t:ya):Prop:=
 ∀(pins:List (Addr×Obj))(s:Shared)(W:St)(H:Hp)(vs:List V) (us:List Value)(Q:St->Hp->Prop),Inv X pins W H s->bq vs us->t vs W H Q->
  wpAny (model X.prog X.w) X.A (assignInOrder ((assignEach ts X.env).map (·.2)) us) (λ_ s'=>∃W' H',Inv X pins W' H' s'/\Q W' H') X.xe s
abbrev CH:=V->V->V->Hp->(Hp->Prop)->Prop
def ER(X:Cx)(t:CH):Prop:=
 ∀(pins:List (Addr×Obj))(s:Shared)(W:St)(H:Hp)(o i v:V)(ov iv u:Value)(Q:Hp->Prop),Inv X pins W H s->RelV o ov->RelV i iv->RelV v u->t o i v H Q->
  wpAny (model X.prog X.w) X.A (setItem ov iv u) (λ_ s'=>∃H',Inv X pins W H' s'/\Q H') X.xe s
section
variable{X:Cx}{pos:Pos}
def c6(i:Nat):TG:=λv W H Q=>Q (W.set i<|some v) H
def dW(Z:X.N.Nodup)(hi:X.N[i]? =some x)(J:Loc X.env.scope x)(Y:X.fn x=true\/X.env.scope.names.lookup x=some .local:=by first|exact .inl rfl|exact .inr rfl|assumption):PG X (.Name x pos) (c6 i):=by intro pins s W H v u Q I r h;exact wpAny_assign_Name<|k8 I Z hi J r (λs' I'=>⟨_,H,I',h⟩) Y
def uJ:ya:=λvs W H Q=>vs=[]/\Q W H
def f6(t:TG)(u:ya):ya:=λvs W H Q=>∃v r,vs=v::r/\t v W H λW' H'=>u r W' H' Q
def og:CQ X [] uJ:=by intro pins s W H vs us Q I r h;obtain⟨e,h⟩:=h;subst e;cases r;exact assignInOrder_nil ⟨W,H,I,h⟩
def e8{t:TG}{u:ya}(h1:PG X e t)(h2:CQ X es u)
  (Y:(assignEach (e::es) X.env).map (·.2)=assign e X.env::(assignEach es X.env).map (·.2):=by rfl):CQ X (e::es) (f6 t u):=by
 intro pins s W H vs us Q I r h;obtain⟨v,vr,e1,h⟩:=h;subst e1;cases r with
 |cons r rr=>rw[Y];refine assignInOrder_cons<|bR (h1 pins s W H _ _ _ I r h) λ_ J Z=>?_;obtain⟨W1,H1,I1,q1⟩:=Z;exact h2 pins J W1 H1 _ _ Q I1 rr q1
def xp(K:aw)(n:Nat)(t:ya):TG:=λv W H Q=>∃a xs,v=.ref a/\dY K H a xs/\xs.length=n/\t xs W H Q
def wx{k:Nat}{t:ya}(hc:X.calm=true)(h:CQ X es t)
  (hn:(assignEach es X.env).length=n:=by rfl)(hst:(assignEach es X.env).findIdx? (·.1)=none:=by rfl):PG X (.Tuple es k pos) (xp X.K n t):=by
 intro pins s W H v u Q I r J;obtain⟨a,xs,e1,hq,hl,J⟩:=J;subst e1;subst r;obtain⟨its,rv,Z,hz⟩:=I.tuple hq;refine assign_Tuple_tuple (I.ok.hd hc) Z (by simp[hn,<-hl,rv.length]) hst λh' Y=>?_
 have I1:=I.kept (t':=s.toks) λb o e=>Y b o (al<|ai e) e;exact h pins _ W H xs _ Q I1 (by omega) J
def FX(to ti:TE)(t:CH):TG:=λv W H Q=>to W H λo H1=>ti W H1 λi H2=>t o i v H2 λH3=>Q W H3
def Bx{o i:Expr}{to ti:TE}{t:CH}(ho:PE X o to)(hi:PE X i ti)(hs:ER X t)
  (ha:∀v,assign (.Subscript o i pos) X.env v=(do
   let J <-holding [v] (eval o X.env)
   let Y <-holding [v,J] (eval i X.env)
   standAt pos
   holding [v,J,Y] (setItem J Y v)
   release [v,J,Y] []):=by intro _;rfl):PG X (.Subscript o i pos) (FX to ti t):=by
 intro pins s W H v u Q I r h;rw[ha];refine aa<|wpAny_holding<|bR (ho pins s W H _ I h) λJ s1 Z=>?_;obtain⟨x,H1,I1,r1,q1⟩:=Z;refine aa<|wpAny_holding<|bR (hi pins s1 W H1 _ I1 q1) λY s2 Z=>?_;obtain⟨y,H2,I2,r2,q2⟩:=Z;refine aa<|wpAny_standAt<|aa<|wpAny_holding<|bR (hs pins s2 W H2 x y v J Y u _ I2 r1 r2 r q2) λ_ s3 Z=>?_;obtain⟨H3,I3,q3⟩:=Z;exact wpAny_release ⟨W,H3,I3,q3⟩
def qJ(te:TE)(g:TG):TS:=λD W H=>te W H λx H1=>g x W H1 D.nx
def wv{te:TE}{g:TG}(he:PE X e te)(Z:PG X tg g)(Y:swapsWithSole [tg] e pos.line X.env=pure false:=by rfl)(hw:swappedStores [tg] e X.env=pure none:=by rfl)
  (h1:(assignEach [tg] X.env).map (·.2)=[assign tg X.env]:=by rfl):PS X (.Assign [tg] e pos) (qJ te g):=by
 intro pins s W H D I h;refine wpAny_Assign_stores (bR (he pins s W H _ I h) λv J ⟨x,H1,I1,r1,q1⟩=>?_) Y hw;rw[h1];exact bR (Z pins J W H1 x v _ I1 r1 q1) λ_ s2 q=>q
def n_{te:TE}(hN:X.N.Nodup)(hi:X.N[i]? =some x)(J:Loc X.env.scope x)(Z:PE X e te)(Y:swapsWith e (some<|.Name x pos') pos.line X.env=pure false:=by rfl)(hf:X.fn x=true\/X.env.scope.names.lookup x=some .local:=by first|exact .inl rfl|exact .inr rfl|assumption):
  PS X (.Assign [.Name x pos'] e pos) (qJ te<|c6 i):=by
 intro pins s W H D I h;refine wpAny_Assign_Name (bR (Z pins s W H _ I h) λv s1 ⟨y,H1,I1,r1,q1⟩=>?_) Y;exact k8 I1 hN hi J r1 (λs2 I2=>⟨_,H1,I2,q1⟩) hf
end
section
variable{X:Cx}{pos:Pos}
def AV(c:TT)(tb:TS):TS:=λD W H=>∃Ww:Nat->St->Hp->Prop,(∃m,Ww m W H)/\∀m W H,Ww m W H->
 c W H λb H1=>if b=true then ∃N:St->Hp->Prop,(∀W' H',N W' H'->∃m',m'<m/\Ww m' W' H')/\tb {D with nx:=N,ct:=N,bk:=D.nx} W H1 else D.nx W H1
def wu{body:List Stmt}{tc:TT}{tb:TS}(hp:PassesOwn (model X.prog X.w) X.A X.env X.xe)(hc:PT X c tc)(hb:PSs X body tb):PS X (.While c body [] pos) (AV tc tb):=by
 intro pins s W H D I h;obtain⟨Ww,⟨m0,w0⟩,turn⟩:=h;refine wpAny_While<|codeAny_whileLoop (λn s'=>∃W' H',Inv X pins W' H' s'/\Ww n W' H') ?_ m0 ⟨W,H,I,w0⟩;rintro n s1 ⟨W1,H1,I1,w1⟩;refine wpAny_passesOwn hp<|bR (hc pins s1 W1 H1 _ I1<|turn n W1 H1 w1) λb s2 ⟨H2,I2,q2⟩=>?_;cases b with
 |true=>
  obtain⟨N,hN,q2⟩:=q2;refine wpAny_passesOwn hp<|bR (hb pins s2 W1 H2 _ I2 q2) λf s3 q3=>?_;cases f with
  |brk=>exact q3
  |ret v=>exact q3
  |_=>obtain⟨W3,J,I3,Z⟩:=q3;obtain⟨m',hm,Y⟩:=hN W3 J Z;exact⟨m',hm,W3,J,I3,Y⟩
 |false=>exact wpAny_execs_nil ⟨W1,H2,I2,q2⟩
end
structure It where
 go:Nat->Hp->Prop
 yld:Nat->Hp->V->Hp->Prop
 stop:Nat->Hp->Prop
def fq(X:Cx)(pins:List (Addr×Obj))(H:Hp)(b:Addr):Prop:=
 H b=none/\b≠X.env.locals/\b∉X.fs/\(b∈X.ex\/X.s₀.heap.objs.size<=b)/\(∀x c,X.env.cells.lookup x=some c->c≠b)/\∀p∈X.pn++pins,p.1≠b
def Inv.fpOk{W:St}{H H':Hp}(I:Inv X pins W H s)(h:s.heap.objs.size<=b)(Y:H' b=none):fq X pins H' b:=by
 refine⟨Y,bM<|av I.lt h,I.nofs h,.inr<|ao I.sz h,λx c e z=>?_,λp J z=>?_⟩
 .obtain⟨v,q⟩:=I.cell x c e;exact absurd (av q.lt (by simp_all))<|bj _
 .exact absurd (av (ai (I.pin p J).1) (by simp_all))<|bj _
structure Turn(P:Program)(w:World)(K:aw)(tg:Expr)(J:It)(fp:List Addr)(it:Addr)(tn:Nat->Heap->Prop):Prop where
 mem:it∈fp
 obj:∀i h,tn i h->∀b∈fp,∃o,h.get? b=some o/\∀v,o.data≠ .cell v
 keep:∀i h h',tn i h->(∀b∈fp,∀o,h.get? b=some o->h'.get? b=some o)->tn i h'
 item:∀(X:Cx),X.prog=P->X.w=w->X.K=K->X.calm=true->∀(i:Nat)(pins:List (Addr×Obj))(s:Shared)(W:St)(H:Hp)(E:Value->Shared->Prop),Inv X pins W H s->(∀b∈fp,fq X pins H b)->tn i s.heap->J.go i H->
  wpAny (model P w) X.A (pyNext<|.ref it) (λr s1=>∃u,r=some u/\
   wpAny (model P w) X.A (letOwnedTupleGo tg (.ref it) u) (λ_ s2=>∃x H',Inv X pins W H' s2/\RelV x u/\J.yld i H x H'/\tn (i+1) s2.heap/\∀b∈fp,H' b=none) E s1) E s
 done:∀(X:Cx),X.prog=P->X.w=w->X.K=K->X.calm=true->∀(i:Nat)(pins:List (Addr×Obj))(s:Shared)(W:St)(H:Hp)(E:Value->Shared->Prop),Inv X pins W H s->(∀b∈fp,fq X pins H b)->tn i s.heap->J.stop i H->
  wpAny (model P w) X.A (pyNext<|.ref it) (λr s1=>r=none/\Inv X pins W H s1) E s
 self:∀(A:Around)(i:Nat)(s:Shared)(Q:Value->Shared->Prop)(E:Value->Shared->Prop),tn i s.heap->Q (.ref it) s->wpAny (model P w) A (pyIter<|.ref it) Q E s
abbrev TI:=St->Hp->(It->Hp->Prop)->Prop
def GG(X:Cx)(pins:List (Addr×Obj))(W:St)(tg:Expr)(R:It->Hp->Prop)(itv:Value)(s2:Shared):Prop:=
 ∃(it:Addr)(fp:List Addr)(tn:Nat->Heap->Prop)(J:It)(H':Hp),itv=.ref it/\Inv X pins W H' s2/\Turn X.prog X.w X.K tg J fp it tn/\tn 0 s2.heap/\(∀b∈fp,fq X pins H' b)/\R J H'
def PI(X:Cx)(tg iter:Expr)(wi:TI):Prop:=
 ∀(pins:List (Addr×Obj))(s:Shared)(W:St)(H:Hp)(R:It->Hp->Prop),Inv X pins W H s->wi W H R->
  wpAny (model X.prog X.w) X.A (eval iter X.env) (λv s1=>wpAny (model X.prog X.w) X.A (pyIter v) (GG X pins W tg R) X.xe s1) X.xe s
def p9{M:Model}{n:String}{Q:Unit->Shared->Prop}(ho:s.heap.get? it=some o)(Y:o.cls=.type n)(hd:o.data=.fields vs)
  (J:["enumerate","zip","dict_itemiterator","dict_reverseitemiterator","odict_iterator","itertools.zip_longest","itertools.pairwise"].contains n=false) (I:Q () s):wpAny M A (letOwnedTupleGo tg (.ref it) u) Q E s:=by
 cases tg<;>first
  |exact ae I
  |(cases u<;>first
    |exact ae I
    |(refine aa (wpAny_load ho ?_)
      rw[Y,hd];show wpAny M A (if(["enumerate","zip","dict_itemiterator","dict_reverseitemiterator","odict_iterator","itertools.zip_longest","itertools.pairwise"].contains n&&vs[0]? ==some (rawInt _))=true then _ else _) Q E s
      rw[if_neg (by intro h;rw[J,Bool.false_and] at h;cases h)]
      exact ae I))
noncomputable def Fd(K:aw)(a:Addr):It:=
 ⟨λi H=>∃xs x,dG K H a xs/\xs[i]? =some x,λi H x H'=>H'=H/\∀xs,dG K H a xs->xs[i]? =some x,λi H=>∃xs,dG K H a xs/\xs.length<=i⟩
noncomputable def Ge(K:aw)(a:Addr):It:=
 ⟨λi H=>∃xs x,dY K H a xs/\xs[i]? =some x,λi H x H'=>H'=H/\∀xs,dY K H a xs->xs[i]? =some x,λi H=>∃xs,dY K H a xs/\xs.length<=i⟩
noncomputable def CS(lo:Int)(n:Nat):It:=⟨λi _=>i<n,λi H x H'=>H'=H/\x=.int (lo+i),λi _=>n<=i⟩
def t5{K:aw}(a it:Addr):Turn P w K tg (Fd K a) [it] it (λi h=>h.IsListIter it a i) where
 mem:=by simp
 obj:=λi h st b J=>by
  have e:b=it:=by simpa using J
  subst e;obtain⟨o,e,c,d⟩:=st;exact⟨o,e,λv z=>by rw[d] at z;cases z⟩
 keep:=λi h h' st k=>st.at λo e=>k it (by simp) o e
 item:=by
  intro X hP hw hK hc i pins s W H E I Z st hg;subst hP hw hK;obtain⟨xs,x,Y,hx⟩:=hg;obtain⟨its,rv,p,hz⟩:=I.list Y;obtain⟨u,hu,ru⟩:=rv.get hx;obtain⟨f0,f1,f2,f3,f4,f5⟩:=Z it (by simp)
  refine wpAny_pyNext_list_item st p.isList (x:=u) (by simpa using hu) λh' st' sb=>?_
  have I1:Inv X pins W H {s with heap:=h'}:=I.turned (t':=s.toks) (λb o J e=>(sb.2 b J).trans e) f0 f1 f3 f4 f5;obtain⟨o,e,c,d⟩:=id st';exact⟨u,rfl,p9 (s:={s with heap:=h'}) e c d (by decide) ⟨x,H,I1,ru,⟨rfl,λys hy=>by rw[I.list_inj hy Y];exact hx⟩,st',λb J=>(Z b J).1⟩⟩
 done:=by
  intro X hP hw hK hc i pins s W H E I Z st hg;subst hP hw hK;obtain⟨xs,Y,hx⟩:=hg;obtain⟨its,rv,p,hz⟩:=I.list Y;obtain⟨f0,f1,f2,f3,f4,f5⟩:=Z it (by simp)
  have hl:=rv.length;exact wpAny_pyNext_list_end (I.ok.hd hc) st p.isList (by simp;lia) λh' eb=>⟨rfl,I.turned (t':=s.toks) (λb o J e=>eb b o J e) f0 f1 f3 f4 f5⟩
 self:=λ_ _ _ _ _ st h=>wpAny_pyIter_listiter st h
def qC{K:aw}(a it:Addr):Turn P w K tg (Ge K a) [it] it (λi h=>h.IsTupleIter it a i) where
 mem:=by simp
 obj:=λi h st b J=>by
  have e:b=it:=by simpa using J
  subst e;obtain⟨o,e,c,d⟩:=st;exact⟨o,e,λv z=>by rw[d] at z;cases z⟩
 keep:=λi h h' st k=>st.at λo e=>k it (by simp) o e
 item:=by
  intro X hP hw hK hc i pins s W H E I Z st hg;subst hP hw hK;obtain⟨xs,x,Y,hx⟩:=hg;obtain⟨its,rv,p,hz⟩:=I.tuple Y;obtain⟨u,hu,ru⟩:=rv.get hx;obtain⟨f0,f1,f2,f3,f4,f5⟩:=Z it (by simp)
  refine wpAny_pyNext_tuple_item st (show s.heap.IsTuple a its.toArray from p) (x:=u) (by simpa using hu) λh' st' sb=>?_
  have I1:Inv X pins W H {s with heap:=h'}:=I.turned (t':=s.toks) (λb o J e=>(sb.2 b J).trans e) f0 f1 f3 f4 f5;obtain⟨o,e,c,d⟩:=id st';exact⟨u,rfl,p9 (s:={s with heap:=h'}) e c d (by decide) ⟨x,H,I1,ru,⟨rfl,λys hy=>by rw[I.tuple_inj hy Y];exact hx⟩,st',λb J=>(Z b J).1⟩⟩
 done:=by
  intro X hP hw hK hc i pins s W H E I Z st hg;subst hP hw hK;obtain⟨xs,Y,hx⟩:=hg;obtain⟨its,rv,p,hz⟩:=I.tuple Y;obtain⟨f0,f1,f2,f3,f4,f5⟩:=Z it (by simp)
  have hl:=rv.length;exact wpAny_pyNext_tuple_end (I.ok.hd hc) st (show s.heap.IsTuple a its.toArray from p) (by simp;omega) λh' eb=>⟨rfl,I.turned (t':=s.toks) (λb o J e=>eb b o J e) f0 f1 f3 f4 f5⟩
 self:=λ_ _ _ _ _ st h=>wpAny_pyIter_tupleiter st h
def qD{K:aw}(it:Addr)(lo:Int)(n:Nat):Turn P w K tg (CS lo n) [it] it (λi h=>IsRangeIter h it (lo+(i:Nat)*1) ((n:Int) - (i:Nat)) 1) where
 mem:=by simp
 obj:=λi h st b J=>by
  simp_all
 keep:=λi h h' st k=>k it (by simp) _ st
 item:=by
  intro X hP Z hK hc i pins s W H E I Y st hg;subst hP Z hK;obtain⟨f0,f1,f2,f3,f4,f5⟩:=Y it (by simp)
  have Ww:=Walks.range (prog:=X.prog) (w:=X.w) (I.ok.hd hc) it lo 1 n;refine Ww.item i s _ _ hg st λv h' tk hv st' kk=>?_;obtain⟨t,rfl⟩:=hv;have I1:Inv X pins W H {s with heap:=h',toks:=tk}:=I.turned (λb o J e=>kk b o (by simpa using J) e) f0 f1 f3 f4 f5
  refine⟨_,rfl,p9 (s:={s with heap:=h',toks:=tk}) (n:= "range_iterator") st' rfl rfl (by decide) ⟨.int<|lo+i,H,I1,⟨t,?_⟩,⟨rfl,rfl⟩,st',λb J=>(Y b J).1⟩⟩
  rw[Int.mul_one]
 done:=by
  intro X hP Z hK hc i pins s W H E I Y st hg;subst hP Z hK;obtain⟨f0,f1,f2,f3,f4,f5⟩:=Y it (by simp)
  exact wpAny_pyNext_range_end (I.ok.hd hc) st (by have:n<=i:=hg;lia) λh' eb=>⟨rfl,I.turned (t':=s.toks) (λb o J e=>eb b o J e) f0 f1 f3 f4 f5⟩
 self:=λ_ _ _ _ _ st h=>wpAny_pyIter_rangeiter st h
section
variable{X:Cx}{tg:Expr}
def pE{W:St}{H:Hp}{R:It->Hp->Prop}{lo hi:Int}{t u v:Tok}{tk:Nat}(I:Inv X pins W H s)(h1: -(2^62)<=lo)(h2:lo<2^62)(Z: -(2^62)<=hi)(Y:hi<2^62)
  (q:R (CS lo (hi - lo).toNat) H):wpAny (model X.prog X.w) X.A (pyIter<|.ref s.heap.objs.size) (GG X pins W tg R) E {s with heap:=s.heap.push {cls:= .type "range",data:= .fields #[.int lo t,.int hi u,.int 1 v]},toks:=tk}:=by
 refine wpAny_pyIter_range (IsRange.new ..) (small_one h1 h2 Z Y) ?_;have h:Inv X pins W H {s with heap:=s.heap.push {cls:= .type "range",data:= .fields #[.int lo t,.int hi u,.int 1 v]},toks:=tk}:=I.kept λb o e=>ac _ e
 refine⟨(s.heap.push {cls:= .type "range",data:= .fields #[.int lo t,.int hi u,.int 1 v]}).objs.size,[(s.heap.push {cls:= .type "range",data:= .fields #[.int lo t,.int hi u,.int 1 v]}).objs.size],_,_,H,rfl,
  h.kept λb o e=>ac _ e,qD _ lo (hi - lo).toNat,?_,λb J=>?_,q⟩
 .have e1:lo+((0:Nat):Int)*1=lo:=by simp
  have e2:(((hi - lo).toNat:Nat):Int) - ((0:Nat):Int)=Builtin.Range.rangeSize lo hi 1:=by rw[rangeSize_one];split<;>lia
  rw[e1,e2];exact aj _ rfl
 .have e:b=(s.heap.push {cls:= .type "range",data:= .fields #[.int lo t,.int hi u,.int 1 v]}).objs.size:=by simpa using J
  subst e;exact h.fpOk (af _)<|h.hok.fresh<|af _
def Ax(ta:TA):TI:=λW H R=>ta W H λvs H1=>∃j:Int,vs=[.int j]/\ -(2^62)<=j/\j<2^62/\R (CS 0 j.toNat) H1
def Ee(ta:TA):TI:=λW H R=>ta W H λvs H1=>∃i j:Int,vs=[.int i,.int j]/\(-(2^62)<=i/\i<2^62/\ -(2^62)<=j/\j<2^62)/\R (CS i (j - i).toNat) H1
def mX{a:Expr}{ta:TA}(Z:Gl X "range")(Y:X.mg "range"=none)(ha:PA X [a] ta)(J:starEach [a] X.env=[(false,eval a X.env)]:=by rfl):PI X tg (.Call (.Name "range" p) [a] [] pos) (Ax ta):=by
 intro pins s W H R I h;refine Call_<|fF I Z Y boot_range<|bC (bR (ha pos pins s W H _ I h) λus s1 ⟨vs,H1,I1,r1,q1⟩=>?_) J rfl;obtain⟨j,e,q1,q2,q⟩:=q1;subst e;cases r1 with
 |cons r rr=>
  cases rr;obtain⟨t,rfl⟩:=r;exact call_range_1<|pE I1 (by lia) (by lia) q1 q2 (by simpa using q)
def uh{a b:Expr}{ta:TA}(hg:Gl X "range")(Z:X.mg "range"=none)(ha:PA X [a,b] ta)(Y:starEach [a,b] X.env=[(false,eval a X.env),(false,eval b X.env)]:=by rfl)(hs2:starEach [b] X.env=[(false,eval b X.env)]:=by rfl):
  PI X tg (.Call (.Name "range" p) [a,b] [] pos) (Ee ta):=by
 intro pins s W H R I h;refine Call_<|fF I hg Z boot_range<|bC (bR (ha pos pins s W H _ I h) λus s1 ⟨vs,H1,I1,r1,q1⟩=>?_) (by rw[Y,hs2]) (by rw[hs2];rfl)
 obtain⟨i,j,e,⟨q1,q2,q3,J⟩,q⟩:=q1;subst e;cases r1 with
 |cons r rr=>
  cases rr with
  |cons r' rr=>cases rr;obtain⟨t,rfl⟩:=r;obtain⟨t',rfl⟩:=r';exact call_range_2<|pE I1 q1 q2 q3 J q
def Ft(wi:TI)(g:TG)(tb:TS):TS:=λD W H=>wi W H λJ H1=>∃Ww:Nat->Nat->St->Hp->Prop,(∃m,Ww 0 m W H1)/\∀i m W H,Ww i m W H->
 (J.stop i H/\D.nx W H)\/(J.go i H/\∃N:St->Hp->Prop,(∀W' H',N W' H'->∃m',m'<m/\Ww (i+1) m' W' H')/\∀x H',J.yld i H x H'->g x W H' λW2 H2=>tb {D with nx:=N,ct:=N,bk:=D.nx} W2 H2)
noncomputable def ju(fp:List Addr)(h:Heap):List (Addr×Obj):=fp.filterMap λb=>(h.get? b).map λo=>(b,o)
def dm(I:b∈fp)(e:h.get? b=some o):(b,o)∈ju fp h:=mem_filterMap.mpr ⟨b,I,by rw[e];rfl⟩
def uo{p:Addr×Obj}(I:p∈ju fp h):p.1∈fp/\h.get? p.1=some p.2:=by
 obtain⟨b,J,e⟩:=mem_filterMap.mp I;cases q:h.get? b with
 |none=>simp_all
 |some o=>rw[q] at e;have e':=ak e;subst e';trivial
def Inv.pinned{W:St}{H:Hp}(I:Inv X pins W H s)(Y:∀b∈fp,fq X pins H b)(ho:∀b∈fp,∃o,s.heap.get? b=some o/\∀v,o.data≠ .cell v):Inv X (pins++ju fp s.heap) W H s:=
 I.pins_of λp J=>(mem_append.mp J).elim (λz=>I.pin p<|aJ _ z) λz=>by
  obtain⟨h,e⟩:=uo z;obtain⟨f0,f1,Z,_⟩:=Y p.1 h;obtain⟨o,e',d⟩:=ho p.1 h
  simp_all
def Inv.unpinned{h:List (Addr×Obj)}{W:St}{H:Hp}(I:Inv X (pins++h) W H s):Inv X pins W H s:=I.pins_of λp J=>I.pin p<|aJ _<|List.mem_append_left _ J
def lq{body:List Stmt}{wi:TI}{g:TG}{tb:TS}(Y:PassesOwn (model X.prog X.w) X.A X.env X.xe)(hc:X.calm=true)(hi:PI X tg iter wi)(hg:PG X tg g)(Z:PSs X body tb)
  (hs:∀x,foldedSetIterable iter X.env x=pure x:=by intro _;rfl):PS X (.For tg iter body [] pos) (Ft wi g tb):=by
 intro pins s W H D I h;refine wpAny_For (bR (hi pins s W H _ I h) λv s1 h1=>bR h1 λitv s2 h2=>?_) hs;obtain⟨it,fp,tn,J,H2,e,I2,T,st2,f2,Ww,⟨m0,w0⟩,turn⟩:=h2;subst e;have stat:∀{H':Hp},(∀b∈fp,H' b=none)->∀b∈fp,fq X pins H' b:=λhn b Z=>⟨hn b Z,(f2 b Z).2⟩;refine codeAny_forLoop_any (λn s'=>∃i W' H',Inv X pins W' H' s'/\tn i s'.heap/\(∀b∈fp,H' b=none)/\Ww i n W' H') ?_ m0 ⟨0,W,H2,I2,st2,λb Z=>(f2 b Z).1,w0⟩;rintro n s3 ⟨i,W3,H3,I3,st3,fr3,w3⟩;rcases turn i n W3 H3 w3 with⟨stop,qn⟩|⟨go,N,hN,step⟩
 .refine wpAny_passesOwn Y<|bR (T.done X rfl rfl rfl hc i pins s3 W3 H3 X.xe I3 (stat fr3) st3 stop) λr s4 ⟨hr,I4⟩=>?_;subst hr;exact wpAny_execs_nil ⟨W3,H3,I4,qn⟩
 .refine wpAny_passesOwn Y<|bR (T.item X rfl rfl rfl hc i pins s3 W3 H3 X.xe I3 (stat fr3) st3 go) λr s4 Y=>?_;obtain⟨u,hr,h4⟩:=Y;subst hr;refine wpAny_passesOwn Y<|bR h4 λ_ s5 Y=>?_;obtain⟨x,H5,I5,r5,y5,st5,fr5⟩:=Y;have I5':=I5.pinned (stat fr5)<|T.obj _ _ st5;refine wpAny_passesOwn Y<|bR (hg _ s5 W3 H5 x u _ I5' r5<|step x H5 y5) λ_ s6 Y=>?_;obtain⟨W6,H6,I6,q6⟩:=Y;refine wpAny_passesOwn Y (bR (Z _ s6 W6 H6 _ I6 q6) λf s7 q7=>?_)
  have again:∀{W7:St}{H7:Hp},Inv X (pins++ju fp s5.heap) W7 H7 s7->N W7 H7->∃m,m<n/\∃i W' H',Inv X pins W' H' s7/\tn i s7.heap/\(∀b∈fp,H' b=none)/\Ww i m W' H':=λ{W7 H7} I7 n7=>by obtain⟨m',hm,w7⟩:=hN W7 H7 n7;refine⟨m',hm,i+1,W7,H7,I7.unpinned,T.keep _ _ _ st5 λb Z o e=>(I7.pin (b,o)<|aJ _<|aJ _<|dm Z e).1,λb Z=>?_,w7⟩;obtain⟨o,e,d⟩:=T.obj _ _ st5 b Z;exact(I7.pin (b,o)<|aJ _<|aJ _<|dm Z e).2.1
  cases f with
  |brk=>obtain⟨W7,H7,I7,q7⟩:=q7;exact⟨W7,H7,I7.unpinned,q7⟩
  |ret v=>obtain⟨x7,W7,H7,I7,r7,q7⟩:=q7;exact⟨x7,W7,H7,I7.unpinned,r7,q7⟩
  |_=>obtain⟨W7,H7,I7,n7⟩:=q7;exact again I7 n7
end
abbrev R2:=V->V->Hp->VK->Prop
def jM(X:Cx)(f:Value->Value->Sem Value)(r:R2):Prop:=
 ∀(pins:List (Addr×Obj))(s:Shared)(W:St)(H:Hp)(x y:V)(v u:Value)(Q:VK),Inv X pins W H s->RelV x v->RelV y u->r x y H Q->
  wpAny (model X.prog X.w) X.A (f v u) (EP X pins W Q) X.xe s
def Ga(X:Cx)(f:Value->Sem Value)(r:V->Hp->VK->Prop):Prop:=
 ∀(pins:List (Addr×Obj))(s:Shared)(W:St)(H:Hp)(x:V)(v:Value)(Q:VK),Inv X pins W H s->RelV x v->r x H Q->
  wpAny (model X.prog X.w) X.A (f v) (EP X pins W Q) X.xe s
def dg(X:Cx)(f:Value)(r:List V->Hp->VK->Prop):Prop:=
 ∀(pins:List (Addr×Obj))(s:Shared)(W:St)(H:Hp)(xs:List V) (us:List Value)(Q:VK),Inv X pins W H s->bq xs us->r xs H Q->
  wpAny (model X.prog X.w) X.A (call f us) (EP X pins W Q) X.xe s
def AW(r:R2)(ta tb:TE):TE:=λW H Q=>ta W H λx H1=>tb W H1 λy H2=>r x y H2 Q
def GN(r:V->Hp->VK->Prop)(ta:TE):TE:=λW H Q=>ta W H λx H1=>r x H1 Q
def rI(C:Int->Int->Prop)(g:Int->Int->V):R2:=λx y H Q=>∃i j,x=.int i/\y=.int j/\C i j/\Q (g i j) H
def Bj(g:Int->Int->V):R2:=λx y H Q=>∃i j,x=.int i/\y=.int j/\Q (g i j) H
def rU(g:Int->V):V->Hp->VK->Prop:=λx H Q=>∃i,x=.int i/\Q (g i) H
section
variable{X:Cx}{a b:Expr}{ta tb:TE}{pos:Pos}
def CD(ha:PE X a ta)(hb:PE X b tb){W:St}{H:Hp}{R:V->V->Hp->Prop}(I:Inv X pins W H s)
  (h:ta W H λx H1=>tb W H1 λy J=>R x y J)
  (hf:∀v u Y x y J,Inv X pins W J Y->RelV x v->RelV y u->R x y J->wpAny (model X.prog X.w) X.A (f v u) Q X.xe Y):
  wpAny (model X.prog X.w) X.A (eval a X.env) (λv s₁=>wpAny (model X.prog X.w) X.A (eval b X.env) (λu s₂=>wpAny (model X.prog X.w) X.A (f v u) Q X.xe s₂) X.xe s₁) X.xe s:=by
 refine bR (ha pins s W H _ I h) λv s1 Z=>?_;obtain⟨x,H1,I1,r1,q1⟩:=Z;refine bR (hb pins s1 W H1 _ I1 q1) λu Y Z=>?_;obtain⟨y,J,I2,r2,q2⟩:=Z;exact hf v u Y x y J I2 r1 r2 q2
def DN{op:Operator}{r:R2}(ho:jM X (binaryOp op) r)(ha:PE X a ta)(hb:PE X b tb):PE X (.BinOp a op b pos) (AW r ta tb):=by intro pins s W H Q I h;exact wpAny_BinOp<|CD ha hb I h λv u J x y H2 I2 Z Y q=>ho pins J W H2 x y v u Q I2 Z Y q
def DL{op:UnaryOp}{r:V->Hp->VK->Prop}(ho:Ga X (unaryOp op) r)(Y:PE X a ta):PE X (.UnaryOp op a pos) (GN r ta):=by intro pins s W H Q I h;exact UnaryOp_<|bR (Y pins s W H _ I h) λv J ⟨x,H1,I1,r1,q1⟩=>ho pins J W H1 x v Q I1 r1 q1
def wG{C:Int->Int->Prop}{g:Int->Int->Int}
  (rule:∀(i j:Int)(t u:Tok)(s:Shared)(Q:Value->Shared->Prop)(E:Value->Shared->Prop),C i j->Q (.int (g i j) s.toks) {s with toks:=s.toks+1}->wpAny (model X.prog X.w) X.A (f (.int i t)<|.int j u) Q E s):
  jM X f (rI C λi j=>.int<|g i j):=by
 intro pins s W H x y v u Q I Y J h;obtain⟨i,j,rfl,rfl,Z,q⟩:=h;obtain⟨t,rfl⟩:=Y;obtain⟨t',rfl⟩:=J;exact rule i j t t' s _ _ Z ⟨.int<|g i j,H,I.tok _,⟨_,rfl⟩,q⟩
def DT{g:Int->Int->Int}
  (rule:∀(i j:Int)(t u:Tok)(s:Shared)(Q:Value->Shared->Prop)(E:Value->Shared->Prop),Q (.int (g i j) s.toks) {s with toks:=s.toks+1}->wpAny (model X.prog X.w) X.A (f (.int i t)<|.int j u) Q E s):
  jM X f (Bj λi j=>.int<|g i j):=by
 intro pins s W H x y v u Q I Y J h;obtain⟨i,j,rfl,rfl,q⟩:=h;obtain⟨t,rfl⟩:=Y;obtain⟨t',rfl⟩:=J;exact rule i j t t' s _ _ ⟨.int<|g i j,H,I.tok _,⟨_,rfl⟩,q⟩
def BS{g:Int->Int->Bool}
  (rule:∀(i j:Int)(t u:Tok)(s:Shared)(Q:Value->Shared->Prop)(E:Value->Shared->Prop),Q (.bool<|g i j) s->wpAny (model X.prog X.w) X.A (f (.int i t)<|.int j u) Q E s):
  jM X f (Bj λi j=>.bl<|g i j):=by
 intro pins s W H x y v u Q I Y J h;obtain⟨i,j,rfl,rfl,q⟩:=h;obtain⟨t,rfl⟩:=Y;obtain⟨t',rfl⟩:=J;exact rule i j t t' s _ _ ⟨.bl<|g i j,H,I,rfl,q⟩
def Gg(i j:Int):Prop:=0<=j/\j<=1000000/\i.natAbs<2^64
def CM(i j:Int):Prop:=(-(2^64)<i/\i<2^64)\/(-(2^64)<j/\j<2^64)
def CM.ok{i j:Int}(h:CM i j):IntMulOk i j:=by
 rcases h with⟨h1,h2⟩|⟨h1,h2⟩
 .exact .of_left<|intBits_le_64 h1 h2
 .exact .of_right<|intBits_le_64 h1 h2
def BR:jM X (binaryOp .Add) (Bj λi j=>.int<|i+j):=DT λ_ _ _ _ _ _ _ q=>add_int q
def BL:jM X (binaryOp .Sub) (Bj λi j=>.int<|i - j):=DT λ_ _ _ _ _ _ _ q=>sub_int q
def zc:jM X (binaryOp .Mod) (rI (λ_ j=>j≠0) λi j=>.int<|i.fmod j):=wG λ_ _ _ _ _ _ _ h q=>mod_int' h q
def BN:jM X (binaryOp .Pow) (rI Gg λi j=>.int<|i^j.toNat):=wG λ_ _ _ _ _ _ _ h q=>pow_int_small h.1 h.2.1 h.2.2 q
def GK{f:Value->Sem Value}{g:Int->Int}
  (rule:∀(i:Int)(t:Tok)(s:Shared)(Q:Value->Shared->Prop)(E:Value->Shared->Prop),Q (.int (g i) s.toks) {s with toks:=s.toks+1}->wpAny (model X.prog X.w) X.A (f<|.int i t) Q E s):
  Ga X f (rU λi=>.int<|g i):=by
 intro pins s W H x v Q I J h;obtain⟨i,rfl,q⟩:=h;obtain⟨t,rfl⟩:=J;exact rule i t s _ _ ⟨.int<|g i,H,I.tok _,⟨_,rfl⟩,q⟩
def AT:Ga X (unaryOp .USub) (rU λi=>.int<|-i):=GK λ_ _ _ _ _ q=>neg_int q
end
section
variable{X:Cx}{a b c:Expr}{ta tb tc:TE}{pos:Pos}
def DQ:jM X (compareOp .Lt) (Bj λi j=>.bl<|decide<|i<j):=BS λ_ _ _ _ _ _ _ q=>lt_int q
def DR:jM X (compareOp .LtE) (Bj λi j=>.bl<|decide<|i<=j):=BS λ_ _ _ _ _ _ _ q=>le_int q
def DS:jM X (compareOp .Gt) (Bj λi j=>.bl<|decide<|j<i):=BS λ_ _ _ _ _ _ _ q=>gt_int q
def y4{op:CmpOp}{r:R2}(ho:jM X (compareOp op) r)(ha:PE X a ta)(hb:PE X b tb)(hm:behindInMarks op b=false):PE X (.Compare a [op] [b] pos) (AW r ta tb):=by intro pins s W H Q I h;exact wpAny_Compare1 (CD ha hb I h λv u J x y H2 I2 Z Y q=>ho pins J W H2 x y v u Q I2 Z Y q) hm
def sk(t:TE):TT:=λW H Q=>t W H λx H'=>∃k,x=.bl k/\Q k H'
def sI{op:CmpOp}{r:R2}(ho:jM X (compareOp op) r)(ha:PE X a ta)(hb:PE X b tb)(Z:behindInMarks op b=false):PT X (.Compare a [op] [b] pos) (sk<|AW r ta tb):=by
 intro pins s W H Q I h
 refine wpAny_isTrue_Compare1 (bR (ha pins s W H _ I h) λv Y ⟨x,H1,I1,r1,q1⟩=>bR (hb pins Y W H1 _ I1 q1) λu J ⟨y,H2,I2,r2,q2⟩=>
  bR (ho pins J W H2 x y v u _ I2 r1 r2 q2) λc s3 ⟨z,H3,I3,r3,k,e,q3⟩=>?_) Z
 subst e;subst r3;exact wpAny_truthy_bool ⟨H3,I3,q3⟩
def qI(r r':R2)(ta tb tc:TE):TE:=λW H Q=>ta W H λx H1=>tb W H1 λy H2=>r x y H2 λz H3=>∃k,z=.bl k/\
 (if k=true then tc W H3 λw' H4=>r' y w' H4 Q else Q (.bl false) H3)
def wD{op J:CmpOp}{r Z:R2}(ho:jM X (compareOp op) r)(Y:jM X (compareOp J) Z)(ha:PE X a ta)(hb:PE X b tb)(hc:PE X c tc)
  (hm:lastMarks [op,J] [b,c]=false:=by with_unfolding_all rfl):PE X (.Compare a [op,J] [b,c] pos) (qI r Z ta tb tc):=by
 intro pins s W H Q I h
 refine Compare_chain (bR (ha pins s W H _ I h) λv s1 ⟨x,H1,I1,r1,q1⟩=>chain_link (bR (hb pins s1 W H1 _ I1 q1) λu s2 ⟨y,H2,I2,r2,q2⟩=>
  bR (ho pins s2 W H2 x y v u _ I2 r1 r2 q2) λd s3 ⟨z,H3,I3,r3,k,e,q3⟩=>?_)) hm
 subst e;subst r3;refine wpAny_truthy_bool ?_;cases k with
 |false=>exact ite_ff ⟨.bl false,H3,I3,rfl,q3⟩
 |true=>exact ite_tt<|chain_last<|bR (hc pins s3 W H3 _ I3 q3) λw' s4 ⟨z',H4,I4,r4,q4⟩=>Y pins s4 W H4 y z' u w' Q I4 r2 r4 q4
def wt{op J:CmpOp}{r Z:R2}(ho:jM X (compareOp op) r)(Y:jM X (compareOp J) Z)(ha:PE X a ta)(hb:PE X b tb)(hc:PE X c tc)
  (hm:lastMarks [op,J] [b,c]=false:=by with_unfolding_all rfl):PT X (.Compare a [op,J] [b,c] pos) (sk<|qI r Z ta tb tc):=by
 intro pins s W H Q I h
 refine isTrue_chain (bR (ha pins s W H _ I h) λv s1 ⟨x,H1,I1,r1,q1⟩=>test_link (bR (hb pins s1 W H1 _ I1 q1) λu s2 ⟨y,H2,I2,r2,q2⟩=>
  bR (ho pins s2 W H2 x y v u _ I2 r1 r2 q2) λd s3 ⟨z,H3,I3,r3,k,e,q3⟩=>?_)) hm
 subst e;subst r3;refine wpAny_truthy_bool ?_;cases k with
 |false=>obtain⟨k',e',q'⟩:=q3;cases e';exact ite_ff ⟨H3,I3,q'⟩
 |true=>refine ite_tt<|test_last<|bR (hc pins s3 W H3 _ I3 q3) λw' s4 ⟨z',H4,I4,r4,q4⟩=>bR (Y pins s4 W H4 y z' u w' _ I4 r2 r4 q4) λd' s5 hp=>?_;obtain⟨z2,H5,I5,r5,k2,e2,q5⟩:=hp;subst e2;subst r5;exact wpAny_truthy_bool ⟨H5,I5,q5⟩
def oq:(sizeLine:Nat)<2^63:=by rw[sizeLine_eq];decide
def vals1{x:V}(r:bq [x] us):∃u,us=[u]/\RelV x u:=by
 cases r with
 |cons r1 r2=>cases r2;exact⟨_,rfl,r1⟩
def vals2{x y:V}(r:bq [x,y] us):∃u h,us=[u,h]/\RelV x u/\RelV y h:=by
 cases r with
 |cons r1 r2=>
  cases r2 with
  |cons r3 r4=>cases r4;exact⟨_,_,rfl,r1,r3⟩
def uZ(J:X.calm=true):dg X (.builtin "max") (λxs H Q=>∃i j,xs=[.int i,.int j]/\Q (.int (if j>i then j else i)) H):=by
 intro pins s W H xs us Q I r h;obtain⟨i,j,rfl,q⟩:=h;obtain⟨u,Y,rfl,⟨t,rfl⟩,⟨t',rfl⟩⟩:=vals2 r;refine max_two_ints (I.ok.hd J) λh' tk k=>⟨_,H,I.kept k,?_,q⟩;by_cases hj:j>i
 .rw[if_pos hj,if_pos hj];exact⟨_,rfl⟩
 .rw[if_neg hj,if_neg hj];exact⟨_,rfl⟩
def uX(J:X.calm=true):dg X (.builtin "min") (λxs H Q=>∃i j,xs=[.int i,.int j]/\Q (.int (if j<i then j else i)) H):=by
 intro pins s W H xs us Q I r h;obtain⟨i,j,rfl,q⟩:=h;obtain⟨u,Y,rfl,⟨t,rfl⟩,⟨t',rfl⟩⟩:=vals2 r;refine min_two_ints (I.ok.hd J) λh' tk k=>⟨_,H,I.kept k,?_,q⟩;by_cases hj:j<i
 .rw[if_pos hj,if_pos hj];exact⟨_,rfl⟩
 .rw[if_neg hj,if_neg hj];exact⟨_,rfl⟩
def u5:dg X (.type "int") (λxs H Q=>(∃i,xs=[.int i]/\Q (.int i) H)\/∃k,xs=[.bl k]/\Q (.int (if k then 1 else 0)) H):=by
 intro pins s W H xs us Q I r h;rcases h with⟨i,rfl,q⟩|⟨k,rfl,q⟩
 .obtain⟨u,rfl,t,rfl⟩:=vals1 r;exact call_int_int ⟨.int i,H,I,⟨_,rfl⟩,q⟩
 .obtain⟨u,rfl,J⟩:=vals1 r;subst J;exact call_int_bool ⟨.int _,H,I.tok _,⟨_,rfl⟩,q⟩
end
structure ObjM(h:Heap)(x dx C:Addr)(mA:Str->Option Value):Prop where
 obj:h.get? x=some (PySem.W.instObj C dx)
 ns:h.Ns1 dx mA
 ne:dx≠x
def uu(n:h.Ns1 dx mA):∃J,h.get? dx=some J/\∀name,PySem.W.lookIn name J=some (mA name):=by
 obtain⟨o,es,ep,ho,hd,hk,_,Z⟩:=n;refine⟨o,ho,λname=>?_⟩;have e:=Z name;unfold nsFind findBy at e;rw[<-Array.find?_toList] at e;unfold PySem.W.lookIn;rw[hd];dsimp only;split
 .simp_all
 .have a:es.toList.any (·.refKey)=false:=by rw[List.any_eq_false];intro y Y;obtain⟨z,t,I⟩:=hk y<|Array.mem_toList_iff.mp Y;simp[DictEntry.refKey,I]
  simp_all
def ObjM.look{x:Addr}(I:ObjM h x dx C mA):∃J,PySem.W.InstAt h x (PySem.W.instObj C dx) C (some J)/\∀name,PySem.W.lookIn name J=some (mA name):=
 let⟨J,ho,hl⟩:=uu I.ns
 ⟨J,⟨I.obj,rfl,rfl,ho⟩,hl⟩
section
variable{prog:Program}{w:World}{A:Around}{E:Value->Shared->Prop}{s:Shared}{K:aw}{x dx C f:Addr}{mA:Str->Option Value}{name:Str}{v:Value}
def zI{expr:Bool}(X:K.In s.heap)(I:ObjM s.heap x dx C mA)(hg:PySem.W.plainGet K C name=true)(hh:PySem.W.hasDictIn K C=true)
  (ha:PySem.W.findIn K (.ref C) name=some none)(Z:mA name=some v)(Y:PySem.W.handedIn v=true)(h:Q v {s with toks:=s.toks+1}):
  wpAny (model prog w) A (getAttr (.ref x) name expr) Q E s:=by
 obtain⟨od,J,hl⟩:=I.look;exact PySem.W.get_value X J (PySem.W.plainGet_of hg).1 (PySem.W.findObj_own hh ha rfl (by rw[hl,Z])) Y h
def xn{Z:Sem Bool}{Q:Value×List Value->Shared->Prop}(X:K.In s.heap)(I:ObjM s.heap x dx C mA)(Y:PySem.W.plainGet K C name=true)
  (hf:PySem.W.findIn K (.ref C) name=some (some<|.ref f))(ht:PySem.W.isFn K (.ref f)=true)(hv:mA name=none)(h:Q (.ref f,[.ref x]) s):
  wpAny (model prog w) A (getMethod (.ref x) name Z) Q E s:=by
 obtain⟨od,J,hl⟩:=I.look;exact PySem.W.method_fn X J (PySem.W.plainGet_of Y).1 (PySem.W.plainGet_of Y).2 hf (beq_iff_eq.mp ht) (by show(PySem.W.lookIn name od).map _=some false;simp_all) h
def yB{ns:List Str}{Q:Unit->Shared->Prop}(X:K.In s.heap)(I:ObjM s.heap x dx C mA)
  (hs:PySem.W.findIn K (.ref C) "__setattr__"=some (some<|.builtin "object.__setattr__")) (hp:PySem.W.plainOver K C=true)(ht:PySem.W.takerIn K C name=some none)(hh:PySem.W.hasDictIn K C=true)
  (hw:PySem.Within mA ns)(hsz:ns.length<=sizeLine)
  (h:∀h',ObjM h' x dx C (λy=>if y=name then some v else mA y)->Heap.SameBut dx s.heap h'->Q () {s with heap:=h',toks:=s.toks+2}):
  wpAny (model prog w) A (setAttr (.ref x) name v) Q E s:=by
 obtain⟨od,J,hl⟩:=I.look;refine PySem.W.set_plain X J hs<|PySem.W.osa_open (s:={s with toks:=s.toks+1}) (r:=none) X J hp ht λb=>?_;obtain⟨cd,hc,hd'⟩:=PySem.W.any_some hh;have hx:s.heap.get? x=some ⟨.ref C,some dx,.plain,#[]⟩:=I.obj;refine aa<|ae<|aa<|aa<|wpAny_loadPart hx<|aa<|PySem.W.Looks.here (s:={s with toks:=s.toks+1}) (PySem.W.looks_clsIn X hc) ?_;rw[hd'];refine ae (a:=some dx)<|aa<|ae<|aa ?_;refine wpAny_nsSet1 (s:={s with toks:=s.toks+1}) I.ns λh' Z Y=>?_;obtain⟨oD,esD,epD,hoD,hdD,hcD⟩:=Z.count<|PySem.Within.cons name v hw;refine aa<|wpAny_lookBehind hoD (by rw[hdD];exact pastItsLine_dict<|ao hcD (by rw[length_cons];lia)) ?_
 exact ae<|h _ ⟨(Y.2 _<|Ne.symm I.ne).trans I.obj,Z,I.ne⟩ Y
def wS{R:Result->Shared->Prop}(X:K.In s.heap)(I:PySem.W.makesIn K C=true)
  (hi:PySem.W.findIn K (.ref C) "__init__"=some (some<|.ref f)) (J:PySem.W.typeIn K (.ref f)=some (.type "function"))
  (h:codeAny (model prog w) (A.under<|.builtin "type.__call__" ⟨.ref C::vs,kw⟩) (.call (.ref f) ⟨.ref (s.heap.objs.size+1)::vs,kw⟩) (PySem.W.InitBack (s.heap.objs.size+1) R)
   {s with heap:=(s.heap.push PySem.W.emptyDict).push (PySem.W.instObj C s.heap.objs.size)}):
  codeAny (model prog w) A (.call (.ref C) ⟨vs,kw⟩) R s:=by
 obtain⟨Y,g,d,t,os⟩:=s;exact PySem.W.make_core (PySem.W.makes_of X I) (PySem.W.looks_findIn X hi) (λself=>PySem.W.bind_fn X self J) (.inl rfl) h
end
noncomputable def eF(f:Str)(v:V):List (Str×V)->List (Str×V)
 |[]=>[(f,v)]
 |(g,x)::r=>if g=f then(g,v)::r else(g,x)::eF f v r
theorem jR(f g:Str)(v:V):∀fs:List (Str×V),(eF f v fs).lookup g=if g=f then some v else fs.lookup g
 |[]=>by
  show List.lookup g [(f,v)]=_;by_cases h:g=f
  .have I:(g==f)=true:=beq_iff_eq.mpr h;simp only[List.lookup,I,if_pos h]
  simp_all
 |(k,x)::r=>by
  have J:=jR f g v r;rw[show eF f v ((k,x)::r)=(if k=f then(k,v)::r else(k,x)::eF f v r) from rfl]
  by_cases hk:k=f
  .rw[if_pos hk];by_cases h:g=k
   .have I:(g==k)=true:=beq_iff_eq.mpr h;simp only[List.lookup,I,if_pos<|h.trans hk]
   .have I:(g==k)=false:=beq_eq_false_iff_ne.mpr h;simp only[List.lookup,I,if_neg (λe:g=f=>h<|e.trans hk.symm)]
  .rw[if_neg hk];by_cases h:g=k
   .simp_all
   .have I:(g==k)=false:=beq_eq_false_iff_ne.mpr h;simp only[List.lookup,I];exact J
theorem jA(f:Str)(v:V):∀fs:List (Str×V),f∈(eF f v fs).map (·.1)/\∀g,g∈fs.map (·.1)->g∈(eF f v fs).map (·.1)
 |[]=>⟨by simp[eF],λg h=>by simp at h⟩
 |(k,x)::r=>by
  obtain⟨i1,i2⟩:=jA f v r;rw[show eF f v ((k,x)::r)=(if k=f then(k,v)::r else(k,x)::eF f v r) from rfl]
  by_cases hk:k=f
  .rw[if_pos hk];subst hk;simp
  .rw[if_neg hk];refine⟨?_,λg h=>?_⟩
   .rw[map_cons];exact mem_cons_of_mem _ i1
   .rcases mem_cons.mp h with e|e
    .exact mem_cons.mpr<|.inl e
    .exact mem_cons_of_mem _<|i2 g e
theorem gH(f:Str)(v:V):∀fs:List (Str×V),(eF f v fs).length<=fs.length+1
 |[]=>by simp[eF]
 |(k,x)::r=>by
  have h:=gH f v r;rw[show eF f v _=(if k=f then(k,v)::r else(k,x)::eF f v r) from rfl]
  by_cases hk:k=f
  .simp_all
  simp_all
def iE.some_of{o:Option Value}(r:iE (some v) o):∃u,o=some u/\RelV v u:=by
 cases o with
 |none=>trivial
 |some u=>exact⟨u,rfl,r⟩
def iE.none_of{o:Option Value}(r:iE none o):o=none:=by
 cases o with
 |none=>rfl
 |some u=>exact(show False from r).elim
def uI(r:RelV v u):PySem.W.handedIn u=true:=by
 cases v with
 |non=>cases(show u=Value.none from r);rfl
 |bl b=>cases(show u=Value.bool b from r);rfl
 |int i=>obtain⟨t,e⟩:=(show ∃t,u=Value.int i t from r);subst e;rfl
 |str x=>obtain⟨t,e⟩:=(show ∃t,u=Value.str x t from r);subst e;rfl
 |byt b=>obtain⟨t,e⟩:=(show ∃t,u=Value.bytes b t from r);subst e;rfl
 |flt b=>obtain⟨t,e⟩:=(show ∃t,u=Value.float b t from r);subst e;rfl
 |ref a=>cases(show u=Value.ref a from r);rfl
 |ty n=>cases(show u=Value.type n from r);rfl
section
variable{P:Program}{w:World}{H:Hp}{h:Heap}{a C dx:Addr}{fs:List (Str×V)}
def kD(I:iG P w H h)(e:H a=some (.ins C dx fs)):∃mA,ObjM h a dx C mA/\(∀f,iE (fs.lookup f)<|mA f)/\PySem.Within mA (fs.map (·.1))/\fs.length<=1000/\H dx=some (.own a):=by obtain⟨d,z,ne,J,mA,n,r,q⟩:=(show bL P w H h a _ from I a _ e);exact⟨mA,⟨J,n,ne⟩,r,q,z,d⟩
end
structure Cls(K:aw)(C:Addr):Prop where
 pg:PySem.W.plainGet K C Str.empty=true
 hd:PySem.W.hasDictIn K C=true
 po:PySem.W.plainOver K C=true
 sa:PySem.W.findIn K (.ref C) "__setattr__"=some (some<|.builtin "object.__setattr__")
def Cls.get{K:aw}(c:Cls K C)(f:Str):PySem.W.plainGet K C f=true:=c.pg
def fZ(K:aw)(C:Addr)(f:Str):Prop:=PySem.W.findIn K (.ref C) f=some none
def fZ.taker{K:aw}{f:Str}(n:fZ K C f):PySem.W.takerIn K C f=some none:=by unfold PySem.W.takerIn;rw[show PySem.W.findIn K _ f=some none from n];rfl
structure Meth(K:aw)(C:Addr)(m:Str)(f:Addr):Prop where
 at_:PySem.W.findIn K (.ref C) m=some (some<|.ref f)
 fn:PySem.W.isFn K (.ref f)=true
 kp:PySem.W.keepIn K (.ref f)=true
section
variable{X:Cx}{pins:List (Addr×Obj)}{W:St}{H:Hp}{s:Shared}{a C dx:Addr}{fs:List (Str×V)}{f:Str}{v:V}{A:Around}{E:Value->Shared->Prop}
def rL{b:Bool}(I:Inv X pins W H s)(e:H a=some (.ins C dx fs))(c:Cls X.K C)(n:fZ X.K C f)(l:fs.lookup f=some v)
  (h:∀u s',Inv X pins W H s'->RelV v u->Q u s'):wpAny (model X.prog X.w) A (getAttr (.ref a) f b) Q E s:=by
 obtain⟨mA,O,r,_,_,_⟩:=kD I.hok e;obtain⟨u,Y,J⟩:=iE.some_of (by rw[<-l];exact r f)
 exact zI I.kIn O (c.get f) c.hd n Y (uI J)<|h u _ (I.tok _) J
def lO{m:Str}{g:Addr}{J:Sem Bool}{Q:Value×List Value->Shared->Prop}(I:Inv X pins W H s)(e:H a=some (.ins C dx fs))(c:Cls X.K C)(k:Meth X.K C m g)(l:fs.lookup m=none)
  (h:Q (.ref g,[.ref a]) s):wpAny (model X.prog X.w) A (getMethod (.ref a) m J) Q E s:=by
 obtain⟨mA,O,r,_,_,_⟩:=kD I.hok e;have Y:=iE.none_of (by rw[<-l];exact r m)
 exact xn I.kIn O (c.get m) k.at_ k.fn Y h
def qM{Q:Unit->Shared->Prop}(I:Inv X pins W H s)(e:H a=some (.ins C dx fs))(c:Cls X.K C)(n:fZ X.K C f)(hl:fs.length<1000)(Z:RelV y u)
  (h:∀s',Inv X pins W (upd H a<|.ins C dx<|eF f y fs) s'->Q () s'):wpAny (model X.prog X.w) A (setAttr (.ref a) f u) Q E s:=by
 obtain⟨mA,O,r,wi,_,ho⟩:=kD I.hok e;have hz:(fs.map (·.1)).length<=sizeLine:=by rw[length_map,sizeLine_eq];lia
 refine yB I.kIn O c.sa c.po n.taker c.hd wi hz λh' J Y=>h _ ?_;have hd:∃o,h'.get? dx=some o:=let⟨o,_,_,e',_⟩:=J.ns;⟨o,e'⟩;refine I.write (x:=a) (e:=dx) (by rw[e];exact True.intro) (.inr ho) (λb q hb z=>(Y.2 b hb).trans z) hd ?_
 refine⟨by rw[aq O.ne];exact ho,?_,O.ne,J.obj,_,J.ns,λg=>?_,λg hg=>?_⟩
 .have:=gH f y fs;lia
 .rw[jR];by_cases q:g=f
  .rw[if_pos q,if_pos q];exact Z
  .rw[if_neg q,if_neg q];exact r g
 .by_cases q:g=f
  .rw[q];exact(jA f y fs).1
  .refine(jA f y fs).2 g (wi g λz=>hg ?_)
   simp_all
def Inv.made(I:Inv X pins W H s):Inv X pins W (upd (upd H s.heap.objs.size<|.own<|s.heap.objs.size+1) (s.heap.objs.size+1)<|.ins C s.heap.objs.size [])
  {s with heap:=(s.heap.push PySem.W.emptyDict).push (PySem.W.instObj C s.heap.objs.size)}:=by
 have e1:(s.heap.push PySem.W.emptyDict).get? s.heap.objs.size=some PySem.W.emptyDict:=aj s.heap rfl
 have Z:=by have:=aj (s.heap.push PySem.W.emptyDict) (o:=PySem.W.instObj C s.heap.objs.size) rfl;rwa [Heap.size_push] at this
 have Y:(s.heap.push PySem.W.emptyDict).Ns s.heap.objs.size _:=⟨PySem.W.emptyDict,#[],_,e1,rfl,(λe J=>absurd J (by simp)),λ_=>rfl⟩
 have I1:=I.laid (o:= .own<|s.heap.objs.size+1) (t':=s.toks) (λb u q=>ac _ q) (af _) ⟨_,e1⟩;refine I1.laid (λb u q=>ac _ q) (le_of_eq<|Heap.size_push _ _) ?_;have ne:s.heap.objs.size≠s.heap.objs.size+1:=al<|aK _;refine⟨by rw[aq ne,aT],zero_le _,ne,Z,λ_=>none,(Heap.Ns1.of_empty Y).at λo q=>ac _ q,λ_=>True.intro,λy h=>absurd rfl h⟩
def z3{env:Env}{f:Str}{s:Shared}(I:attributeBase e f env (eval e env)=eval e env)
  (h:wpAny (model prog w) A (eval e env) (λo s₁=>wpAny (model prog w) A (getAttr o f true) Q E s₁) E s):wpAny (model prog w) A (eval (.Attribute e f pos) env) Q E s:=
 Attribute_any_ h (by rw[arm_eval_Attribute,I])
end
def Fu(K:aw)(ta:TE)(f:Str):TE:=λW H Q=>ta W H λx H1=>∃a C dx fs v,x=.ref a/\H1 a=some (.ins C dx fs)/\Cls K C/\fZ K C f/\fs.lookup f=some v/\Q v H1
def FE(K:aw)(ta tv:TE)(f:Str):TS:=λD W H=>tv W H λy H1=>ta W H1 λx H2=>∃a C dx fs,x=.ref a/\H2 a=some (.ins C dx fs)/\Cls K C/\fZ K C f/\fs.length<1000/\
 D.nx W (upd H2 a<|.ins C dx<|eF f y fs)
section
variable{X:Cx}{o e value:Expr}{f:Str}{pos pos':Pos}{ta tv:TE}
def BF(he:PE X e ta)(hb:attributeBase e f X.env (eval e X.env)=eval e X.env):PE X (.Attribute e f pos) (Fu X.K ta f):=by intro pins s W H Q I h;refine z3 hb<|bR (he pins s W H _ I h) λu s1 Z=>?_;obtain⟨x,H1,I1,J,a,C,dx,fs,v,ex,ea,c,n,l,q⟩:=Z;subst ex;obtain rfl:u=Value.ref a:=J;exact rL I1 ea c n l λu' s2 I2 Y=>⟨v,H1,I2,Y,q⟩
def Bu(ha:PE X o ta)(Z:PE X value tv)(hs:swapsWith value (some<|.Attribute o f pos') pos.line X.env=pure false):PS X (.Assign [.Attribute o f pos'] value pos) (FE X.K ta tv f):=by intro pins s W H D I h;refine plainObj_wpAny_Assign_Attribute (bR (Z pins s W H _ I h) λu J ⟨y,H1,I1,ry,q⟩=>bR (ha pins J W H1 _ I1 q) λY s2 ⟨x,H2,I2,rx,a,C,dx,fs,ex,ea,c,n,l,q2⟩=>?_) hs;subst ex;obtain rfl:Y=Value.ref a:=rx;exact qM I2 ea c n l ry λs3 I3=>⟨W,_,I3,q2⟩
end
section
variable{X:Cx}{pins:List (Addr×Obj)}{W:St}{H:Hp}{s:Shared}{A:Around}{E:Value->Shared->Prop}{Q:Value->Shared->Prop}{c:Value}{b:Bool}
inductive TyOf(K:aw)(H:Hp):V->Value->Prop where
 |non:TyOf K H .non (.type "NoneType")
 |bl (x:Bool):TyOf K H (.bl x) (.type "bool")
 |int (i:Int):TyOf K H (.int i) (.type "int")
 |str (x:Str):TyOf K H (.str x) (.type "str")
 |flt (x:UInt64):TyOf K H (.flt x) (.type "float")
 |lst {a:Addr}{xs:List V}(e:H a=some (.lst xs)):TyOf K H (.ref a) (.type "list")
 |frz {a:Addr}{o:Obj}{xs:List V}(e:H a=some (.frz o<|.lst xs)):TyOf K H (.ref a) (.type "list")
 |tup {a:Addr}{xs:List V}(e:H a=some (.tup xs)):TyOf K H (.ref a) (.type "tuple")
 |dK {a:Addr}{kvs:List (Key×V)}(e:H a=some (.dK kvs)):TyOf K H (.ref a) (.type "dict")
 |dT {a:Addr}{kvs:List (List Key×V)}(e:H a=some (.dT kvs)):TyOf K H (.ref a) (.type "dict")
 |ins {a C dx:Addr}{fs:List (Str×V)}(e:H a=some (.ins C dx fs))(cl:Cls K C)(ha:PySem.W.findIn K (.ref C) "__class__"=some (some<|.builtin "object.__class__"))
   (hn:PySem.W.specialIn K (.builtin "object.__class__") "__get__"=some (some<|.builtin "getset_descriptor.__get__")) (htk:PySem.W.takesIn K (.builtin "object.__class__")=some true)
   (hm:PySem.W.mroIn K C (.type "object")=some true):TyOf K H (.ref a) (.ref C)
def uE{x:V}(I:Inv X pins W H s)(Y:RelV x u)(ty:TyOf X.K H x t)(e:PySem.W.kitOne X.K t c=some b)(h:∀tk,Q (.bool b) {s with toks:=tk}):
  wpAny (model X.prog X.w) A (call (.builtin "isinstance") [u,c]) Q E s:=by
 cases ty with
 |non=>cases(show u=Value.none from Y);exact PySem.W.kia_one PySem.W.kitx_none I.kIn True.intro e (λz=>nomatch z) h
 |bl y=>cases(show u=Value.bool y from Y);exact PySem.W.kia_one PySem.W.kitx_bool I.kIn True.intro e (λz=>nomatch z) h
 |int i=>obtain⟨t,q⟩:=(show ∃t,u=Value.int i t from Y);subst q;exact PySem.W.kia_one PySem.W.kitx_int I.kIn True.intro e (λz=>nomatch z) h
 |str y=>obtain⟨t,q⟩:=(show ∃t,u=Value.str y t from Y);subst q;exact PySem.W.kia_one PySem.W.kitx_str I.kIn True.intro e (λz=>nomatch z) h
 |flt y=>obtain⟨t,q⟩:=(show ∃t,u=Value.float y t from Y);subst q;exact PySem.W.kia_one PySem.W.kitx_float I.kIn True.intro e (λz=>nomatch z) h
 | @lst a xs ea=>cases(show u=Value.ref a from Y);obtain⟨_,_,n,_,h1⟩:=(show bL X.prog X.w H s.heap a (.lst xs) from I.hok a _ ea);exact PySem.W.kia_one PySem.W.kitx_list I.kIn ⟨_,h1,rfl⟩ e (λz=>nomatch z) h
 | @frz a ob xs ea=>cases(show u=Value.ref a from Y);obtain⟨_,_,_,n,_,h1⟩:=(show bL X.prog X.w H s.heap a (.frz ob<|.lst xs) from I.hok a _ ea);exact PySem.W.kia_one PySem.W.kitx_list I.kIn ⟨_,h1,rfl⟩ e (λz=>nomatch z) h
 | @tup a xs ea=>cases(show u=Value.ref a from Y);obtain⟨_,_,_,p⟩:=(show bL X.prog X.w H s.heap a (.tup xs) from I.hok a _ ea);obtain⟨o,h1,Z,_⟩:=p;exact PySem.W.kia_one PySem.W.kitx_tuple I.kIn ⟨o,h1,Z.1⟩ e (λz=>nomatch z) h
 | @dK a kvs ea=>cases(show u=Value.ref a from Y);obtain⟨_,_,vs,_,p⟩:=(show bL X.prog X.w H s.heap a (.dK kvs) from I.hok a _ ea);obtain⟨o,es,ep,h1,Z,_⟩:=p;exact PySem.W.kia_one PySem.W.kitx_dict I.kIn ⟨o,h1,Z.1⟩ e (λz=>nomatch z) h
 | @dT a kvs ea=>cases(show u=Value.ref a from Y);obtain⟨_,_,xs,_,o,es,ep,h1,Z,_⟩:=(show bL X.prog X.w H s.heap a (.dT kvs) from I.hok a _ ea);exact PySem.W.kia_one PySem.W.kitx_dict I.kIn ⟨o,h1,Z.1⟩ e (λz=>nomatch z) h
 | @ins a C dx fs ea cl ha hn htk hm=>cases(show u=Value.ref a from Y);obtain⟨mA,O,_⟩:=kD I.hok ea;obtain⟨od,J,_⟩:=O.look;exact PySem.W.kia_one (PySem.W.kitx_own (cl.get _) cl.hd ha hn htk hm) I.kIn J e (λz=>nomatch z) h
end
structure Room(k:Nat)(A:Around):Prop where
 hd:A.handled=none
 dp:A.depth+3*k+5<recursionLimit
 un:A.units+16*k+200<cLine
def Room.mono{k:Nat}(r:Room k A)(h:j<=k):Room j A:=⟨r.hd,by have:=r.dp;omega,by have:=r.un;omega⟩
theorem Room.deeper{k:Nat}(r:Room (k+1) A)(env:Env):Room k (A.deeper env):=
 ⟨r.hd,by have:=r.dp;show A.depth+1+3*k+5<_;lia,by have:=r.un;show A.units+3+16*k+200<_;lia⟩
def rm:(A.under<|.builtin "type.__call__" ⟨.ref C::us,kw⟩).depth=A.depth+1:=rfl
def rj:(A.under<|.builtin "type.__call__" ⟨.ref C::us,kw⟩).units=A.units+1:=rfl
def Room.make{k:Nat}(r:Room (k+1) A)(C:Addr)(us:List Value)(kw:List (Str×Value)):Room k (A.under<|.builtin "type.__call__" ⟨.ref C::us,kw⟩):=
 ⟨r.hd,by have:=r.dp;rw[rm];lia,by have:=r.un;rw[rj];lia⟩
theorem Room.depth{k:Nat}(r:Room k A):A.depth<recursionLimit:=by have:=r.dp;omega
def AX:TA:=λ_ H Q=>Q [] H
def Aj(ta:TE)(tr:TA):TA:=λW H Q=>ta W H λx H1=>tr W H1 λxs H2=>Q (x::xs) H2
section
variable{X:Cx}{e:Expr}{es:List Expr}{te:TE}{t:TA}{pos:Pos}
def dk:PA X [] AX:=λ_ _ _ _ H Q I h=>Calls.spliced_nil ⟨[],H,I,.nil,h⟩
def cf(ha:PE X e te)(hr:PA X es t)(Z:starEach (e::es) X.env=(false,eval e X.env)::starEach es X.env:=by rfl):PA X (e::es) (Aj te t):=by intro pos pins s W H Q I h;rw[Z];refine Calls.spliced_cons<|bR (ha pins s W H _ I h) λu J hp=>?_;obtain⟨x,H1,I1,Y,q1⟩:=hp;exact bR (hr pos pins J W H1 _ I1 q1) λus s2 ⟨xs,H2,I2,r2,q2⟩=>⟨x::xs,H2,I2,.cons Y r2,q2⟩
def Fi(t:TA):TE:=λW H Q=>t W H λxs H1=>xs.length<=sizeLine/\∀p,H1 p=none->Q (.ref p) (upd H1 p<|.tup xs)
def Fq(t:TA):TE:=λW H Q=>t W H λxs H1=>xs.length<=sizeLine/\∀p,H1 p=none->Q (.ref p) (upd H1 p<|.lst xs)
def By{x1}(h:PA X es t):PE X (.Tuple es x1 pos) (Fi t):=by
 intro pins s W H Q I Y;refine wpAny_Tuple_spliced<|bR (h pos pins s W H _ I Y) λus J ⟨xs,H1,I1,r,z,q⟩=>⟨by rw[<-r.length];exact z,?_⟩
 have Z:=I1.hok.fresh<|af _;refine⟨.ref J.heap.objs.size,upd H1 J.heap.objs.size _,I1.laid (λb u e=>ac _ e) (af _) ?_,rfl,q _ Z⟩;exact⟨z,us,r,⟨_,aj _ rfl,⟨rfl,rfl⟩,_,rfl⟩⟩
def BE(h:PA X es t):PE X (.List es pos) (Fq t):=by
 intro pins s W H Q I Y;refine wpAny_List_spliced<|bR (h pos pins s W H _ I Y) λus J ⟨xs,H1,I1,r,z,q⟩=>⟨by rw[<-r.length];exact z,?_⟩
 have Z:=I1.hok.fresh<|af _;refine⟨.ref J.heap.objs.size,upd H1 J.heap.objs.size _,I1.laid (λb u e=>ac _ e) (af _) ?_,rfl,q _ Z⟩;exact⟨z,us,0,r,aj _ rfl⟩
end
abbrev Sp:=List V->Hp->VK->XK->Prop
abbrev yc:=List Env->Hp->Shared->XK->Value->Shared->Prop
structure Env0(P:Program)(w:World)(K:aw)(mg:Str->Option Value)(base:Heap)(A:Around)(outer:List Env)(s:Shared)(H:Hp):Prop where
 frames:A.frames=some outer
 mod:Mod K mg base
 bs:∀b o,base.get? b=some o->s.heap.get? b=some o/\H b=none
 bsz:base.objs.size<=s.heap.objs.size
 funs:s.heap.FunFrames base outer
 frf:∀b∈xr outer,H b=none
 hok:iG P w H s.heap
 bare:AllBare s.gens
def CE(outer:List Env)(P:Program)(w:World)(H:Hp)(s:Shared)(Q:VK)(u:Value)(s':Shared):Prop:=
 ∃v H',s'.os=s.os/\AllBare s'.gens/\Un (xr outer) [] H H' s.heap s'.heap/\iG P w H' s'.heap/\RelV v u/\Q v H'
def CR(CX:yc)(outer:List Env)(P:Program)(w:World)(H:Hp)(s:Shared)(Q:VK)(E:XK)(r:Result)(s':Shared):Prop:=
 match r with
 | .ok (.ret u)=>CE outer P w H s Q u s'
 | .ok _=>False
 | .error e=>CX outer H s E e s'
structure FnOk(P:Program)(w:World)(K:aw)(mg:Str->Option Value)(base:Heap)(CX:yc)(k:Nat)(f:Addr)(fd:FuncData)(ps:List Str)(sp:Sp):Prop where
 len:∀vs H Q E,sp vs H Q E->vs.length=ps.length
 run:∀(A:Around)(outer:List Env)(s:Shared)(H:Hp)(args:Args)(us:List Value) (vs:List V)(Q:VK)(E:XK),Room k A->Env0 P w K mg base A outer s H->BindsTo s fd args (ps.zip us)->bq vs us->sp vs H Q E->
  codeAny (model P w) A (.call (.ref f) args) (CR CX outer P w H s Q E) s
def Env0.make{K:aw}{outer:List Env}{H:Hp}(e:Env0 P w K mg base A outer s H)(C:Addr)(us:List Value)(kw:List (Str×Value)):
  Env0 P w K mg base (A.under<|.builtin "type.__call__" ⟨.ref C::us,kw⟩) outer s H:=⟨by first|exact e.frames|rfl,e.mod,e.bs,e.bsz,e.funs,e.frf,e.hok,e.bare⟩
section
variable{X:Cx}{pins:List (Addr×Obj)}{W:St}{H:Hp}{s s':Shared}
def Inv.env0(I:Inv X pins W H s):Env0 X.prog X.w X.K X.mg X.base X.A X.stack s H:=
 ⟨I.ok.frames,I.ok.mod,I.bs,ao I.ok.bsz I.sz,I.stack,I.stkFree,I.hok,I.bare⟩
def Inv.after{Q:VK}(I:Inv X pins W H s)(h:CE X.stack X.prog X.w H s Q u s'):EP X pins W Q u s':=by
 obtain⟨v,H',os,bare,un,Y,r,q⟩:=h;obtain⟨Z,g,d,t,J⟩:=s';obtain rfl:J=s.os:=os;exact⟨v,H',I.call un Y bare<|λb z=>absurd z (by simp),r,q⟩
end
def Dq(sp:Sp)(dvs:List V)(E:XK)(t:TA):TE:=λW H Q=>t W H λvs H1=>sp (vs++dvs) H1 Q E
def Dm(C:Addr)(sp:Sp)(dvs:List V)(E:XK)(t:TA):TE:=λW H Q=>t W H λvs H1=>∀x dx,H1 x=none->H1 dx=none->dx≠x->
 sp (.ref x::(vs++dvs)) (upd (upd H1 dx<|.own x) x<|.ins C dx []) (λv H2=>v=.non/\Q (.ref x) H2) E
def Binds(K:aw)(fd:FuncData)(ps:List Str)(ds:List Value):Prop:=
 ∀(s:Shared)(us:List Value),K.In s.heap->(us++ds).length=ps.length->BindsTo s fd ⟨us,[]⟩ (ps.zip<|us++ds)
def Binds.all{K:aw}{fd:FuncData}{ps:List Str}(h:∀us:List Value,us.length=ps.length->bindArgs fd ⟨us,[]⟩=pure (ps.zip us)):Binds K fd ps []:=λs us _ I=>by rw[append_nil] at I ⊢;exact .of_eq<|h us I
def me(CX:yc)(X:Cx)(E:XK):Prop:=∀(pins:List (Addr×Obj))(W:St)(H:Hp)(s:Shared)(e:Value)(s':Shared),Inv X pins W H s->CX X.stack H s E e s'->X.xe e s'
section
variable{X:Cx}{CX:yc}{k:Nat}{f C:Addr}{fd:FuncData}{ps:List Str}{sp:Sp}{dvs:List V}{ds:List Value}{E:XK}{x:Str}{p pos:Pos}{e:Expr}{es:List Expr}{t:TA}
def Bh{W:St}{H:Hp}{Q:VK}(F:FnOk X.prog X.w X.K X.mg X.base CX k f fd ps sp)(hr:Room k X.A)(hb:Binds X.K fd ps ds)(hd:bq dvs ds)(Z:me CX X E)
  (I:Inv X pins W H s)(r:bq vs us)(h:sp (vs++dvs) H Q E):wpAny (model X.prog X.w) X.A (call (.ref f) us) (EP X pins W Q) X.xe s:=by
 have J:=r.append hd;have hl:(us++ds).length=ps.length:=by rw[<-J.length];exact F.len _ _ _ _ h
 refine wpAny_call<|codeAny_mono (F.run X.A X.stack s H ⟨us,[]⟩ _ _ Q E hr I.env0 (hb s us I.kIn hl) J h) λr s' Y=>?_;cases r with
 |error e=>exact Z pins W H s e s' I Y
 |ok fl=>
  cases fl with
  |ret u=>exact I.after Y
  |_=>trivial
def y7(F:FnOk X.prog X.w X.K X.mg X.base CX k f fd ps sp)(Z:Room k X.A)(hg:Gl X x)(hm:X.mg x=some (.ref f))(hk:PySem.W.keepIn X.K (.ref f)=true)(hb:Binds X.K fd ps ds)(hd:bq dvs ds)(Y:me CX X E)
  (ha:PA X (e::es) t)(J:(x==("__debug__":Str))=false:=by decide) (he:starEach (e::es) X.env=(false,eval e X.env)::starEach es X.env:=by rfl)(hpl:(backTo pos<|starEach es X.env).any (·.1)=false:=by rfl):
  PE X (.Call (.Name x p) (e::es) [] pos) (Dq sp dvs E t):=by
 intro pins s W H Q I h;refine wpAny_Call_Name_kw<|ou I hg hm ?_ J;refine PySem.W.callWith_K I.ok.mod.kin hk (bR (ha pos pins s W H _ I h) λus s1 ⟨vs,H1,I1,r,q⟩=>⟨I1.kIn,?_⟩) he hpl;exact Bh F Z hb hd Y I1 r q
structure Mk(K:aw)(C f:Addr):Prop where
 makes:PySem.W.makesIn K C=true
 init:PySem.W.findIn K (.ref C) "__init__"=some (some<|.ref f)
 fn:PySem.W.isFn K (.ref f)=true
 kp:PySem.W.keepIn K (.ref C)=true
def wf{W:St}{H:Hp}{Q:VK}(M:Mk X.K C f)(F:FnOk X.prog X.w X.K X.mg X.base CX k f fd ps sp)(hr:Room (k+1) X.A)(hb:Binds X.K fd ps ds)(hd:bq dvs ds)
  (hx:me CX X E)(I:Inv X pins W H s)(r:bq vs us)
  (h:∀x dx,H x=none->H dx=none->dx≠x->sp (.ref x::(vs++dvs)) (upd (upd H dx<|.own x) x<|.ins C dx []) (λv H2=>v=.non/\Q (.ref x) H2) E):
  wpAny (model X.prog X.w) X.A (call (.ref C) us) (EP X pins W Q) X.xe s:=by
 have hq:=h (s.heap.objs.size+1) s.heap.objs.size (I.hok.fresh<|le_succ _) (I.hok.fresh<|af _)<|al<|aK _;have Y:=Inv.made (C:=C) I;have Z:bq (V.ref (s.heap.objs.size+1)::(vs++dvs)) _:= .cons rfl<|r.append hd
 have hl:=by have e:=Z.length;rw[F.len _ _ _ _ hq] at e;exact e.symm
 refine wpAny_call (wS (f:=f) I.kIn M.makes M.init (beq_iff_eq.mp M.fn) (codeAny_mono (F.run _ X.stack _ _ ⟨Value.ref (s.heap.objs.size+1)::us,[]⟩ _ _ _ E (hr.make C us [])
  (Y.env0.make C us []) (hb _ (Value.ref (s.heap.objs.size+1)::us) Y.kIn hl) Z hq) λr s' J=>?_))
 cases r with
 |error e=>exact hx pins W _ _ e s' Y J
 |ok fl=>
  cases fl with
  |ret u=>obtain⟨v,H',I3,rv,ev,q3⟩:=Y.after J;subst ev;exact⟨rv,⟨V.ref<|s.heap.objs.size+1,H',I3,rfl,q3⟩⟩
  |_=>exact False.elim J
def y3(M:Mk X.K C f)(F:FnOk X.prog X.w X.K X.mg X.base CX k f fd ps sp)(Z:Room (k+1) X.A)(hg:Gl X x)(hm:X.mg x=some (.ref C))(hb:Binds X.K fd ps ds)(hd:bq dvs ds)(Y:me CX X E)
  (ha:PA X (e::es) t)(J:(x==("__debug__":Str))=false:=by decide) (he:starEach (e::es) X.env=(false,eval e X.env)::starEach es X.env:=by rfl)(hpl:(backTo pos<|starEach es X.env).any (·.1)=false:=by rfl):
  PE X (.Call (.Name x p) (e::es) [] pos) (Dm C sp dvs E t):=by
 intro pins s W H Q I h;refine wpAny_Call_Name_kw<|ou I hg hm ?_ J;refine PySem.W.callWith_K I.ok.mod.kin M.kp (bR (ha pos pins s W H _ I h) λus s1 ⟨vs,H1,I1,r,q⟩=>⟨I1.kIn,?_⟩) he hpl;exact wf M F Z hb hd Y I1 r q
end
section
end
structure FnScope(N P:List Str)(sc:Scope):Prop where
 kind:sc.kind=.function
 co:sc.isCoroutine=false
 gen:sc.isGenerator=false
 nd:N.Nodup
 pre:N.take P.length=P
 par:∀x∈P,sc.names.lookup x=some .local\/sc.names.lookup x=some .cell
 nofree:∀y∈sc.names,y.2≠ .free
theorem nA{kindOf:Str->Option NameKind}{x:Str}:∀{binds:List (Str×Value)}{m:Str->Option Value},(∀v,(x,v)∉binds)->bindL kindOf binds m x=m x
 |[],_,_=>rfl
 |(n,v)::r,m,h=>by
  unfold bindL;rw[nA λw I=>h w<|mem_cons_of_mem _ I];split
  .have:x≠n:=by rintro rfl;exact h v mem_cons_self
   simp[this]
  .rfl
theorem nD{kindOf:Str->Option NameKind}{x:Str}:∀{binds:List (Str×Value)}{m:Str->Option Value},(∀v,(x,v)∉binds)->bindC kindOf binds m x=m x
 |[],_,_=>rfl
 |(n,v)::r,m,h=>by
  unfold bindC;rw[nD λw I=>h w<|mem_cons_of_mem _ I];split
  .rfl
  .have:x≠n:=by rintro rfl;exact h v mem_cons_self
   simp[this]
theorem nC{kindOf:Str->Option NameKind}{x:Str}:∀{P:List Str}{vs:List Value}{i:Nat}{m:Str->Option Value},P.Nodup->P[i]? =some x->vs[i]? =some v->kindOf x=some .local->
  bindL kindOf (P.zip vs) m x=some v
 |[],_,_,_,_,h,_,_=>by simp at h
 |_::_,[],_,_,_,_,h,_=>by simp at h
 |p::P,w::vs,0,m,nd,h1,h2,hk=>by simp at h1 h2;subst h1;subst h2;show bindL kindOf ((p,w)::P.zip vs) m p=_;unfold bindL;rw[nA λv I=>(nodup_cons.mp nd).1 (of_mem_zip I).1,if_pos hk];simp
 |p::P,w::vs,i+1,m,nd,h1,h2,hk=>by
  unfold bindL;exact nC (nodup_cons.mp nd).2 (by trivial) (by simpa using h2) hk
theorem nE{kindOf:Str->Option NameKind}{x:Str}:∀{P:List Str}{vs:List Value}{i:Nat}{m:Str->Option Value},P.Nodup->P[i]? =some x->vs[i]? =some v->kindOf x≠some .local->
  bindC kindOf (P.zip vs) m x=some v
 |[],_,_,_,_,h,_,_=>by simp at h
 |_::_,[],_,_,_,_,h,_=>by simp at h
 |p::P,w::vs,0,m,nd,h1,h2,hk=>by simp at h1 h2;subst h1;subst h2;show bindC kindOf ((p,w)::P.zip vs) m p=_;unfold bindC;rw[nD λv I=>(nodup_cons.mp nd).1 (of_mem_zip I).1,if_neg hk];simp
 |p::P,w::vs,i+1,m,nd,h1,h2,hk=>by
  unfold bindC;exact nE (nodup_cons.mp nd).2 (by simpa using h1) (by simpa using h2) hk
noncomputable def start(N:List Str)(vs:List V):St:=vs.map some++replicate (N.length - vs.length) none
noncomputable def lY(CX:yc)(P:Program)(w:World)(K:aw)(mg:Str->Option Value)(base:Heap)(N:List Str)(qual:Str)(scope:Scope)(f:Addr)(cd:Value)(A:Around)(outer:List Env)(s:Shared)(H:Hp)(E:XK):Cx where
 prog:=P
 w:=w
 K:=K
 mg:=mg
 base:=base
 A:=A.deeper<|envOfC qual scope s.heap.objs.size f cd
 N:=N
 s₀:=s
 H₀:=H
 env:=envOfC qual scope s.heap.objs.size f cd
 outer:=outer
 stack:=envOfC qual scope s.heap.objs.size f cd::outer
 ex:=[]
 calm:=true
 fn:=λ_=>true
 pn:=[]
 xe:=λe s'=>wpAny (model P w) (A.deeper<|envOfC qual scope s.heap.objs.size f cd) (leaving (envOfC qual scope s.heap.objs.size f cd) e) (λ_ s''=>CX outer H s E e s'') (λe' s''=>CX outer H s E e' s'') s'
def qi{sc:Scope}(h:sc.names.lookup x=some .cell):∃c,(cellsFrom n sc.names []).lookup x=some c:=by have q:=PySem.W.cellsFrom_some sc.names n []<|.inl h;exact Option.isSome_iff_exists.mp q
def uG{CX:yc}{K:aw}{N ps:List Str}{f:Addr}{outer:List Env}{H:Hp}{E:XK}{vs:List V}
  (S:FnScope N ps scope)(hd:A.handled=none)(J:Env0 P w K mg base A outer s H)(hl:vs.length=ps.length)(r:bq vs us)
  (x:InCallC s s.heap.objs.size (bindL (envOfC qual scope s.heap.objs.size f cd).kindOf (ps.zip us) λ_=>none) (cellsFrom (s.heap.objs.size+1) scope.names []) (bindC (envOfC qual scope s.heap.objs.size f cd).kindOf (ps.zip us) λ_=>none) s1):
  Inv (lY CX P w K mg base N qual scope f cd A outer s H E) [] (start N vs) H s1:=by
 have hpl:ps.length<=N.length:=by have:=congrArg List.length S.pre;rw[length_take] at this;lia
 obtain⟨h1,tk,rfl,hk⟩:=x.done;have Y:∀b:Addr,b∉(lY CX P w K mg base N qual scope f cd A outer s H E).ex:=λb z=>absurd (show b∈([]:List Addr) from z) (by simp)
 refine⟨⟨J.mod,S.kind,rfl,rfl,af _,λy z c h1 I=>?_,λy Z=>?_,λy c _ h=>?_,λ_=>hd,Around.frames_deeper J.frames,.inr ⟨rfl,rfl⟩,λb z=>absurd z<|Y b,J.bs,J.bsz,λb _ _=>Y b,λb z=>absurd z<|Y b,J.funs,J.frf⟩,
  rfl,J.bare,Un.kept hk,⟨_,x.toInCall.ns,λi y v h1 I h3=>?_⟩,λy c h=>⟨_,x.cell y c h⟩,J.hok.fresh<|af _,λy c h=>?_,λp hp=>absurd (show p∈([]:List (Addr×Obj)) from hp) (by simp),J.hok.kept hk,?_⟩
 .exact name_of_addr x.apart (aL h1)<|aL I
 .have Z:scope.names.lookup y=some .cell\/scope.names.lookup y=some .free:=Z;rcases Z with Z|Z
  .exact qi Z
  .exact absurd rfl<|S.nofree _<|aL Z
 .exact le_of_lt<|x.above y c<|aL h
 .have hi:i<vs.length:=by
   unfold start at I;by_cases hi:i<vs.length
   .exact hi
   .rw[aM (by simpa using hi)] at I
    rw[List.getElem?_replicate] at I;split at I<;>cases I
  have ha:vs[i]? =some v:=by
   unfold start at I;rw[aI (by simpa using hi),az] at I
   cases e:vs[i]? with
   |none=>rw[e] at I;cases I
   |some a=>rw[e] at I;cases I;rfl
  obtain⟨u,hu,rv⟩:=r.get ha
  have hp:ps[i]? =some y:=by
   rw[<-S.pre,List.getElem?_take_of_lt (by lia)];exact h1
  have ndP:ps.Nodup:=by rw[<-S.pre];exact S.nd.sublist<|List.take_sublist _ _
  refine⟨u,rv,?_⟩;rcases S.par y (ah hp) with k|k
  .exact .inl ⟨k,nC ndP hp hu k⟩
  .obtain⟨c,e⟩:=qi (n:=s.heap.objs.size+1) k;refine .inr ⟨.inl k,c,e,?_⟩;have q:=x.cell y c e;rw[nE ndP hp hu (by show scope.names.lookup y≠_;rw[k];decide)] at q
   exact q
 .exact J.hok.fresh<|le_of_lt<|x.above y c<|aL h
 .unfold start;show _=N.length;rw[aD,length_map,List.length_replicate]
  lia
def AA{CX:yc}{K:aw}{k:Nat}{f:Addr}{name:Str}{body:List Stmt}{dV kV doc pm h ct oc:Value}{an od:Option Addr}
  {osl:Array (Option Value)}{N ps:List Str}{sp:Sp}(lk:K.lookup f=some ⟨oc,od,.func<|PySem.W.fnOf name qual params body scope dV kV doc pm an h ct,osl⟩)(hcd:PySem.W.codeIn K h qual=true)(S:FnScope N ps scope)
  (len:∀vs H Q E,sp vs H Q E->vs.length=ps.length)
  (Z:∀(A:Around)(outer:List Env)(s:Shared)(H:Hp)(vs:List V)(Q:VK)(E:XK),Room k (A.deeper<|envOfC qual scope s.heap.objs.size f h)->sp vs H Q E->
   ∃t,PSs (lY CX P w K mg base N qual scope f h A outer s H E) body t/\t {nx:=λ_ H'=>Q .non H',rt:=Q} (start N vs) H):
  FnOk P w K mg base CX (k+1) f (PySem.W.fnOf name qual params body scope dV kV doc pm an h ct) ps sp:=by
 refine⟨len,λA outer s H args us vs Q E hr e0 hb r hsp=>?_⟩;have hl:=len _ _ _ _ hsp;have KX:K.In s.heap:=e0.mod.kin.keeps λb o e=>(e0.bs b o e).1;have lim:s.heap.NoLimit:=e0.mod.nolimit.keeps λb o e=>(e0.bs b o e).1
 have Y:∀y∈ps.zip us,scope.names.lookup y.1=some .local\/(scope.names.lookup y.1=some .cell/\((cellsFrom (s.heap.objs.size+1) scope.names []).lookup y.1).isSome=true):=λ⟨n,v⟩ hy=>by
  rcases S.par n (of_mem_zip hy).1 with q|q
  .exact .inl q
  .exact .inr ⟨q,PySem.W.cellsFrom_some _ _ _<|.inl q⟩
 refine codeAny_call_function hr.depth (KX _ _ lk) rfl S.co S.gen rfl (PySem.W.codeRec_of KX hcd)<|hb _ _ _ _ ?_;refine wpAny_newFunctionEnv_cells S.kind Y λenv he s1 x=>?_;subst he;refine⟨lim.keeps x.toInCall.keep,codeAny_func ?_⟩;obtain⟨t,ht,hq⟩:=Z A outer s H vs Q E (hr.deeper _) hsp;have I:Inv (lY CX P w K mg base N qual scope f h A outer s H E) [] (start N vs) H s1:=uG S hr.hd e0 hl r x;refine aO (ht [] s1 (start N vs) H _ I hq) (λfl s' hs=>?_) λe s' hs=>hs
 have fin:∀{W':St}{H':Hp}{v:V}{u:Value},Inv (lY CX P w K mg base N qual scope f h A outer s H E) [] W' H' s'->RelV v u->Q v H'->CE outer P w H s Q u s':=
  λ{W' H' v u} J rv q=>⟨v,H',J.os,J.bare,J.base,J.hok,rv,q⟩
 cases fl with
 |ret u=>obtain⟨v,W',H',J,rv,q⟩:=hs;exact fin J rv q
 |next=>obtain⟨W',H',J,q⟩:=hs;exact fin (v:=V.non) J rfl q
 |_=>obtain⟨_,_,_,q⟩:=hs;exact False.elim q
section
variable{X:Cx}{x:Str}{p pos:Pos}{e:Expr}{es:List Expr}{t:TA}{id T:String}{r:List V->Hp->VK->Prop}
def Fv(r:List V->Hp->VK->Prop)(t:TA):TE:=λW H Q=>t W H λvs H1=>r vs H1 Q
def e_(hc:dg X (.builtin id) r)(hg:Gl X x)(hm:X.mg x=none)(Y:bootBuiltins x=some (.builtin id))(ha:PA X (e::es) t)(Z:x≠ "__name__":=by decide)(hdb:(x==("__debug__":Str))=false:=by decide)
  (he:starEach (e::es) X.env=(false,eval e X.env)::starEach es X.env:=by rfl)(hpl:(backTo pos<|starEach es X.env).any (·.1)=false:=by rfl):PE X (.Call (.Name x p) (e::es) [] pos) (Fv r t):=by
 intro pins s W H Q I h;refine wpAny_Call_Name_kw<|fF I hg hm Y ?_ Z hdb;exact PyProof.Rows.callWith_builtin1 (bR (ha pos pins s W H _ I h) λus J ⟨vs,H1,I1,r1,q1⟩=>hc pins J W H1 vs us Q I1 r1 q1) he hpl
def mY(hc:dg X (.type T) r)(hg:Gl X x)(hm:X.mg x=none)(Y:bootBuiltins x=some (.type T))(ha:PA X (e::es) t)(Z:x≠ "__name__":=by decide)(hdb:(x==("__debug__":Str))=false:=by decide)
  (he:starEach (e::es) X.env=(false,eval e X.env)::starEach es X.env:=by rfl)(hpl:(backTo pos<|starEach es X.env).any (·.1)=false:=by rfl):PE X (.Call (.Name x p) (e::es) [] pos) (Fv r t):=by
 intro pins s W H Q I h;refine wpAny_Call_Name_kw<|fF I hg hm Y ?_ Z hdb;exact bC (bR (ha pos pins s W H _ I h) λus J ⟨vs,H1,I1,r1,q1⟩=>hc pins J W H1 vs us Q I1 r1 q1) he hpl
end
end L2
namespace HT
variable{sl t:Addr}{hi lo:Option Int}{vl vu:Value}
section
open PySem.SeqAt
open PySem.MeetsSeq PySem.MeetsSeq2 PySem.MeetsSeq3
end
section
variable{prog:Program}{w:World}{A:Around}{E:Value->Shared->Prop}{s:Shared}
def zY{b:Addr}{vs h:List Value}{Q:Value->Shared->Prop}(ht:IsTup s.heap t vs.toArray)(hb:IsTup s.heap b h.toArray)(Z:vs≠[])
  (h1:h=[]->Q (.ref t) s)(h2:h≠[]->Q (.ref s.heap.objs.size) {s with heap:=s.heap.push {cls:= .type "tuple",data:= .seq (vs++h).toArray}})
  (hsz:vs.length+h.length<=sizeLine):wpAny (model prog w) A (binaryOp .Add (.ref t)<|.ref b) Q E s:=by
 obtain⟨⟨cls,dd,data,sl⟩,ho,hc,n,hd⟩:=id ht;obtain⟨⟨cls2,dd2,data2,sl2⟩,I,Y,n2,J⟩:=id hb;subst hc hd Y J;have e:vs.toArray++h.toArray=(vs++h).toArray:=by simp
 by_cases hw:h=[]
 .exact concat_meets ⟨_,ho,rfl⟩ ⟨_,I,rfl⟩ noFill_tuple_add seq_tuple_add PySem.F.slot_tuple_add PySem.F.entry_tuple_add (PySem.F.args_tuple_add_2 _ _)
   (tuple_addW1 t b vs.toArray h.toArray n n2 dd dd2 sl sl2 (by simpa using Z) (by simp[hw])) ⟨ho,I,h1 hw⟩
 .refine concat_meets ⟨_,ho,rfl⟩ ⟨_,I,rfl⟩ noFill_tuple_add seq_tuple_add PySem.F.slot_tuple_add PySem.F.entry_tuple_add (PySem.F.args_tuple_add_2 _ _)
   (tuple_addW2 t b vs.toArray h.toArray n n2 dd dd2 sl sl2 (by simpa using Z) (by simpa using hw) (by omega)) ⟨ho,I,?_⟩
  rw[e];exact h2 hw
noncomputable def c_(n d:Nat):Option Int->Nat
 |none=>d
 |some v=>if v<0 then(v+(n:Int)).toNat else min v.toNat n
def we(n d:Nat):c_ n d none=d:=rfl
def Bg(n d:Nat)(hd:d<=n)(o:Option Int):c_ n d o<=n:=by
 cases o with
 |none=>exact hd
 |some v=>
  show(if v<0 then(v+(n:Int)).toNat else min v.toNat n)<=n
  by_cases hv:v<0
  .rw[if_pos hv];lia
  .rw[if_neg hv];exact Nat.min_le_right _ _
def tR(v:Int)(n d:Nat):(if v<0 then max (v+(n:Int)) 0 else min v (n:Int))=((c_ n d (some v):Nat):Int):=by
 show(if v<0 then max _ 0 else min v (n:Int))=(((if v<0 then(v+(n:Int)).toNat else min v.toNat n):Nat):Int)
 by_cases hv:v<0
 .simp_all
 .simp only[if_neg hv];lia
def rX(lo hi:Option Int)(n:Nat):Builtin.Slice.sliceAdjust lo hi 1 (n:Int)=(((c_ n 0 lo:Nat):Int),((c_ n n hi:Nat):Int)):=by
 refine Prod.ext ?_ ?_
 .cases lo with
  |none=>rfl
  |some v=>exact tR v n 0
 .cases hi with
  |none=>rfl
  |some v=>exact tR v n n
def qY(i j:Nat):Builtin.Slice.slicePlaces (i:Int) (j:Int) 1=j - i:=by
 unfold Builtin.Slice.slicePlaces;have h1:(1:Int)>0:=by lia
 simp only[h1,if_true,Int.ediv_one];split<;>lia
def k_{o:Option Int}{Q:Option Int->Shared->Prop}(p:IsPart v o)(h:Q o s):wpAny (model prog w) A (Builtin.Slice.slicePartIndex v) Q E s:=by
 cases p with
 |none=>exact slicePart_none h
 |int i t=>exact slicePart_int h
def eZ{n:Nat}{Q:Int×Int×Nat->Shared->Prop}(hs:s.heap.IsSliceOf sl vl vu .none)(Z:IsPart vl lo)(Y:IsPart vu hi)
  (h:Q (((c_ n 0 lo:Nat):Int),1,c_ n n hi - c_ n 0 lo) s):wpAny (model prog w) A (Builtin.Slice.sliceApplied (.ref sl)<|pure (n:Int)) Q E s:=by
 obtain⟨os,I,hcs,J⟩:=id hs;refine aa<|aa<|bc I J (x:=vl) rfl<|aa<|bc I J (x:=vu) rfl<|aa<|bc I J (x:= .none) rfl<|ae ?_;refine aa<|slicePart_none ?_;refine aa<|k_ Z<|aa<|k_ Y<|aa<|ae ?_;show wpAny _ _ (match Builtin.Slice.sliceAdjust lo hi 1 (n:Int) with|(lo,hi)=>pure (lo,(1:Int),Builtin.Slice.slicePlaces lo hi 1)) _ _ s
 rw[rX lo hi n];show wpAny _ _ (pure (((c_ n 0 lo:Nat):Int),(1:Int),Builtin.Slice.slicePlaces ((c_ n 0 lo:Nat):Int) ((c_ n n hi:Nat):Int) 1)) _ _ s;rw[qY];exact ae h
def ww(xs:Array Value)(i k:Nat):((range k).filterMap λ(m:Nat)=>xs[((i:Int)+(m:Int)*1).toNat]?).toArray=((xs.toList.drop i).take k).toArray:=by
 have e:(λ(m:Nat)=>xs[((i:Int)+(m:Int)*1).toNat]?)=λm=>xs[i+m]?:=by
  funext m;have:((i:Int)+(m:Int)*1).toNat=i+m:=by lia
  rw[this]
 rw[e];have:=pick_run xs i k;rw[List.filterMap_map] at this;have h:((λx=>xs[x]?) ∘ λx=>i+x)=λm=>xs[i+m]?:=rfl
 simp_all
def i5{items:Array Value}{Q:Value->Shared->Prop}(J:IsTup s.heap t items)(hs:s.heap.IsSliceOf sl vl vu .none)(pl:IsPart vl lo)(pu:IsPart vu hi)
  (hw:¬(c_ items.size 0 lo=0/\c_ items.size items.size hi=items.size))
  (h:Q (.ref s.heap.objs.size) {s with heap:=s.heap.push {cls:= .type "tuple",data:= .seq ((items.toList.drop<|c_ items.size 0 lo).take<|c_ items.size items.size hi - c_ items.size 0 lo).toArray}})
  (hsz:items.size<=sizeLine):wpAny (model prog w) A (getItem (.ref t)<|.ref sl) Q E s:=by
 have I:sizeOk (.seq ((items.toList.drop<|c_ items.size 0 lo).take<|c_ items.size items.size hi - c_ items.size 0 lo).toArray):=by show((items.toList.drop<|c_ items.size 0 lo).take<|c_ items.size items.size hi - c_ items.size 0 lo).toArray.size<=sizeLine;rw[size_toArray,length_take,length_drop,length_toList];omega
 have hj:c_ items.size items.size hi<=items.size:=Bg _ _ (af _) hi;obtain⟨os,Y,hcs,hds⟩:=id hs;have hTs:s.TypeIs (.ref sl) "slice":=⟨os,Y,hcs⟩;unfold getItem
 try with_reducible refine wpAny_holding ?_
 first|refine aa (ae ?_)|skip
 refine aa<|wpAny_sequenceKey J.typeIs (by decide) ?_
 refine aa (wpAny_callSpecial?_slot (name:=Str.ofString "__getitem__") J.typeIs PyProof.Rows.slot_tuple_getitem
  (wpAny_call_entry PyProof.Rows.slot_tuple_getitem J.typeIs entry_tuple_getitem ?_<|args_tuple_getitem _ _))
 show wpAny _ _ (Builtin.Tuple.tupleItemsOf (.ref t)>>=_) _ _ s;refine aa<|tupleItemsOf_ J ?_;refine aa<|wpAny_typeOf hTs ?_;rw[if_pos (by decide)]
 refine aa<|eZ hs pl pu ?_
 have Z:¬((((c_ items.size 0 lo:Nat):Int)==0&&(1:Int)==1&&(c_ items.size items.size hi - c_ items.size 0 lo)==items.size)=true):=by
  simp_all
 show wpAny _ _ (if(((c_ items.size 0 lo:Nat):Int)==0&&(1:Int)==1&&(c_ items.size items.size hi - c_ items.size 0 lo)==items.size)=true then _ else _) _ _ s
 rw[if_neg Z,ww]
 first
  |exact aa (m:=Builtin.Tuple.tupleExact _)<|wpAny_newObj_type (ae ⟨_,rfl,ae h⟩) I
  |rfl
  |rfl
  |exact aa<|aa (m:=Builtin.Tuple.tupleExact _)<|wpAny_newObj_type (ae ⟨_,rfl,ae h⟩) I
end
end HT
namespace L2
variable{its its' us:List Value}{xs:List V}{n t':Nat}{s:Shared}{pins:List (Addr×Obj)}
abbrev TO:=St->Hp->(Option Int->Hp->Prop)->Prop
def PO(X:Cx)(e:Option Expr)(t:TO):Prop:=
 ∀(pins:List (Addr×Obj))(s:Shared)(W:St)(H:Hp)(Q:Option Int->Hp->Prop),Inv X pins W H s->t W H Q->
  wpAny (model X.prog X.w) X.A (evalPart e X.env) (λu s'=>∃o H',Inv X pins W H' s'/\IsPart u o/\Q o H') X.xe s
def so:TO:=λ_ H Q=>Q none H
def Ai(t:TE):TO:=λW H Q=>t W H λx H1=>∃i,x=.int i/\Q (some i) H1
def intsAre_of{ns:List Int}:∀{us:List Value},bq (ns.map V.int) us->IntsAre us ns:=by
 induction ns with
 |nil=>intro us r;cases r;exact .nil
 |cons n ns ih=>
  intro us r;cases r with
  |cons r1 r2=>obtain⟨t,e⟩:=r1;subst e;exact .cons n t<|ih r2
section
variable{X:Cx}{e:Expr}{te:TE}{lo hi:Option Expr}{tl th:TO}{pos p2:Pos}
def sM:PO X none so:=by intro pins s W H Q I h;rw[evalPart_none];exact ae ⟨none,H,I,.none,h⟩
def kA(h:PE X e te):PO X (some e) (Ai te):=by intro pins s W H Q I Y;refine bR (h pins s W H _ I Y) λu s1 Z=>?_;obtain⟨x,H1,I1,J,q1⟩:=Z;obtain⟨i,rfl,q⟩:=q1;obtain⟨t,rfl⟩:=J;exact⟨some i,H1,I1,.int i t,q⟩
def EN(X:Cx)(r:V->Option Int->Option Int->Hp->VK->Prop):Prop:=
 ∀(pins:List (Addr×Obj))(s:Shared)(W:St)(H:Hp)(x:V)(v vl vu:Value)(lo hi:Option Int)(sl:Addr)(Q:VK),Inv X pins W H s->RelV x v->s.heap.IsSliceOf sl vl vu .none->IsPart vl lo->IsPart vu hi->r x lo hi H Q->
  ∃T id,typeLookup (.type T) "__getitem__"=pure (some<|.builtin id)/\s.TypeIs v T/\wpAny (model X.prog X.w) X.A (getItem v<|.ref sl) (EP X pins W Q) X.xe s
def GO(r:V->Option Int->Option Int->Hp->VK->Prop)(te:TE)(tl th:TO):TE:=λW H Q=>te W H λx H1=>tl W H1 λl H2=>th W H2 λu H3=>r x l u H3 Q
def wB{r:V->Option Int->Option Int->Hp->VK->Prop}(hr:EN X r)(he:PE X e te)(hl:PO X lo tl)(hu:PO X hi th):PE X (.Subscript e (.Slice lo hi none p2) pos) (GO r te tl th):=by intro pins s W H Q I h;refine Subscript_<|bR (he pins s W H _ I h) λv s1 Y=>?_;obtain⟨x,H1,I1,r1,q1⟩:=Y;refine wpAny_Slice<|bR (hl pins s1 W H1 _ I1 q1) λvl s2 ⟨l,H2,I2,pl,q2⟩=>bR (hu pins s2 W H2 _ I2 q2) λvu J Y=>?_;obtain⟨u,Z,I3,pu,q3⟩:=Y;refine ae ?_;have I4:Inv X pins W Z {J with heap:=J.heap.push {cls:= .type "slice",data:= .fields #[vl,vu,.none]}}:=I3.kept λb ob q=>ac _ q;obtain⟨T,id,hT,ht,hg⟩:=hr pins {J with heap:=J.heap.push {cls:= .type "slice",data:= .fields #[vl,vu,.none]}} W Z x v vl vu l u J.heap.objs.size Q I4 r1 (Heap.IsSliceOf.new ..) pl pu q3;exact tail_any ht hT hg<|rfl
noncomputable def uT(xs:List V)(lo hi:Option Int):List V:=(xs.drop<|HT.c_ xs.length 0 lo).take<|HT.c_ xs.length xs.length hi - HT.c_ xs.length 0 lo
def jX(xs:List V)(lo hi:Option Int):(uT xs lo hi).length<=xs.length:=by
 unfold uT;rw[length_take,length_drop]
 lia
def FF(K:aw):V->Option Int->Option Int->Hp->VK->Prop:=λx lo hi H Q=>∃a xs,x=.ref a/\dY K H a xs/\
 ¬(HT.c_ xs.length 0 lo=0/\HT.c_ xs.length xs.length hi=xs.length)/\∀p,H p=none->Q (.ref p) (upd H p<|.tup<|uT xs lo hi)
def AY:EN X (FF X.K):=by
 intro pins s W H x v vl vu lo hi sl Q I rx hs pl pu h;obtain⟨a,xs,rfl,hx,hw,q⟩:=h;subst rx;obtain⟨its,r,Z,Y⟩:=I.tuple hx;have J:its.toArray.size=xs.length:=by exact r.length.symm
 refine⟨"tuple",_,PyProof.Rows.slot_tuple_getitem.lookup,Z.typeIs,?_⟩;refine HT.i5 Z hs pl pu (by rw[J];exact hw) ?_ (by rw[J];exact Y)
 rw[J];refine⟨.ref s.heap.objs.size,_,I.laid (λb ob q=>ac _ q) (af _) ?_,rfl,q _<|I.hok.fresh<|af _⟩;exact⟨ao (jX xs lo hi) Y,_,(r.drop _).take _,ko.new _ _⟩
def DH(K:aw):R2:=λx y H Q=>∃a b xs ys,x=.ref a/\y=.ref b/\dY K H a xs/\dY K H b ys/\xs≠[]/\xs.length+ys.length<=sizeLine/\
 (ys=[]->Q (.ref a) H)/\(ys≠[]->∀p,H p=none->Q (.ref p) (upd H p<|.tup<|xs++ys))
def bq.nil_iff(r:bq xs us):us=[]↔xs=[]:=by
 cases r with
 |_=>simp
def zd:jM X (binaryOp .Add) (DH X.K):=by
 intro pins s W H x y v u Q I rx Z h;obtain⟨a,b,xs,ys,rfl,rfl,ha,hb,hx,hz,q1,q2⟩:=h;subst rx;subst Z;obtain⟨its,Y,p1,_⟩:=I.tuple ha;obtain⟨its2,J,p2,_⟩:=I.tuple hb;refine HT.zY p1 p2 (λz=>hx<|Y.nil_iff.mp z) (λz=>⟨.ref a,H,I,rfl,q1<|J.nil_iff.mp z⟩) (λz=>?_) (by rw[<-Y.length,<-J.length];exact hz)
 refine⟨.ref s.heap.objs.size,_,I.laid (λb ob q=>ac _ q) (af _) ?_,rfl,q2 (λw=>z<|J.nil_iff.mpr w) _<|I.hok.fresh<|af _⟩;exact⟨by simp_all,_,Y.append J,ko.new _ _⟩
end
noncomputable def Aw(n:Nat)(i:Int):Option Nat:=if 0<=i then(if i<n then some i.toNat else none) else if -(n:Int)<=i then some (i+n).toNat else none
def tX{α:Type}(xs:List α)(i:Int):Option α:=(Aw xs.length i).bind λj=>xs[j]?
def tF{i:Int}{j:Nat}(h:Aw n i=some j):seqIndex? i n=some j/\j<n/\ -(n:Int)<=i/\i<n:=by
 unfold Aw at h;by_cases h0:0<=i
 .rw[if_pos h0] at h;by_cases h1:i<n
  .rw[if_pos h1] at h;have e:i.toNat=j:=ak h;exact⟨by rw[seqIndex_of h0 h1,e],by lia,by lia,h1⟩
  simp_all
 .rw[if_neg h0] at h;by_cases h1: -(n:Int)<=i
  .rw[if_pos h1] at h;have e:(i+n).toNat=j:=ak h;exact⟨by rw[seqIndex_neg (by lia) h1,e],by lia,h1,by lia⟩
  simp_all
def kJ{α:Type}{xs:List α}{i:Int}{v:α}(h:tX xs i=some v):∃j,seqIndex? i xs.length=some j/\xs[j]? =some v/\j<xs.length/\ -(xs.length:Int)<=i/\i<xs.length:=by
 unfold tX at h;cases e:Aw xs.length i with
 |none=>simp_all
 |some j=>rw[e] at h;obtain⟨h1,Y,J,I⟩:=tF e;exact⟨j,h1,h,Y,J,I⟩
def Ab(b:Expr):Prop:=∀o i,subscripted b false o i=operate [o,i] (getItem o i)
def EW(X:Cx)(r:R2):Prop:=
 ∀(value slice:Expr)(pins:List (Addr×Obj))(s:Shared)(W:St)(H:Hp)(x y:V)(v u:Value)(Q:VK),Inv X pins W H s->RelV x v->RelV y u->r x y H Q->
  subscripted slice false v u=operate [v,u] (getItem v u)->wpAny (model X.prog X.w) X.A (subscriptTail value slice v u) (EP X pins W Q) X.xe s
def GH(X:Cx)(id:String)(r:V->List V->Hp->VK->Prop):Prop:=
 ∀(pins:List (Addr×Obj))(s:Shared)(W:St)(H:Hp)(x:V)(xs:List V) (v:Value) (us:List Value)(Q:VK),Inv X pins W H s->RelV x v->bq xs us->r x xs H Q->
  wpAny (model X.prog X.w) X.A (call (.builtin id)<|v::us) (EP X pins W Q) X.xe s
section
variable{X:Cx}{a b:Expr}{ta tb:TE}{pos:Pos}
def An{r:R2}(hr:EW X r)(ha:PE X a ta)(hb:PE X b tb)(hs:Ab b):PE X (.Subscript a b pos) (AW r ta tb):=by intro pins s W H Q I h;exact Subscript_<|CD ha hb I h λv u J x y H2 I2 Z Y q=>hr a b pins J W H2 x y v u Q I2 Z Y q<|hs _ _
def FJ(K:aw):R2:=λx y H Q=>∃p xs i v,x=.ref p/\y=.int i/\dG K H p xs/\tX xs i=some v/\Q v H
def FI(K:aw):R2:=λx y H Q=>∃p xs i v,x=.ref p/\y=.int i/\dY K H p xs/\tX xs i=some v/\Q v H
def zv:EW X (FJ X.K):=by
 intro value slice pins s W H x y v u Q I rx ry h hs;obtain⟨p,xs,i,z,rfl,rfl,hq,he,q⟩:=h;subst rx;obtain⟨t,rfl⟩:=ry;obtain⟨its,r,Z,hz⟩:=I.list hq;obtain⟨j,h1,h2,h3,h4,h5⟩:=kJ he;obtain⟨w,ew,Y⟩:=r.get h2;have hl:=r.length;have hn:=oq;have J:EP X pins W Q w s:=⟨z,H,I,Y,q⟩;by_cases h0:0<=i
 .have hj:i.toNat=j:=by rw[seqIndex_of h0 h5] at h1;exact ak h1
  exact item_listR Z.isList h0 (by lia) (by rw[hj];simpa using ew) J hs
 .have hj:(i+(its.toArray.size:Int)).toNat=j:=by
   rw[seqIndex_neg (by omega) h4] at h1
   rw[size_toArray,<-hl];exact ak h1
  exact subscriptTail_builtinR (x:=w) Z.isList.typeIs slot_list_getitem.lookup
   (wpAny_getItem_list_neg (Q:=λr s'=>r=w/\EP X pins W Q r s') Z.isList (by omega) (by rw[size_toArray]<;>lia) (by lia) (by rw[hj];simpa using ew) ⟨rfl,J⟩) hs
def B7:EW X (FI X.K):=by
 intro value slice pins s W H x y v u Q I rx ry h hs;obtain⟨p,xs,i,z,rfl,rfl,hq,he,q⟩:=h;subst rx;obtain⟨t,rfl⟩:=ry;obtain⟨its,r,Z,hz⟩:=I.tuple hq;obtain⟨j,h1,h2,h3,h4,h5⟩:=kJ he;obtain⟨w,ew,J⟩:=r.get h2;have hl:=r.length;have hn:=oq;have Y:EP X pins W Q w s:=⟨z,H,I,J,q⟩
 exact subscriptTail_builtinR Z.typeIs slot_tuple_getitem.lookup
  (getItem_tuple (j:=j) Z (by lia) (by lia) (by simp_all) (by simpa using ew) ⟨rfl,Y⟩) hs
def rh(its:List Value)(n j:Nat)(u:Value):Obj.mapSeq (·.setIfInBounds j u) {cls:= .type "list",data:= .seq its.toArray n}={cls:= .type "list",data:= .seq (its.set j u).toArray n}:=by simp[Obj.mapSeq]
theorem Inv.lst{W:St}{H:Hp}{p:Addr}(I:Inv X pins W H s)(h:H p=some (.lst xs)):
  ∃(its:List Value)(n:Nat),bq xs its/\s.heap.get? p=some {cls:= .type "list",data:= .seq its.toArray n}/\xs.length<=sizeLine:=by
 obtain⟨z,its,n,r,e⟩:=I.hok p _ h;exact⟨its,n,r,e,z⟩
def Inv.lstUpd{W:St}{H:Hp}{p:Addr}{ys:List V}{J:Nat}{f:Obj->Obj}(I:Inv X pins W H s)(h:H p=some (.lst xs))
  (ho:s.heap.get? p=some {cls:= .type "list",data:= .seq its.toArray n}) (Y:f {cls:= .type "list",data:= .seq its.toArray n}={cls:= .type "list",data:= .seq its'.toArray J}) (r:bq ys its')(Z:ys.length<=sizeLine)(t:Nat):
  Inv X pins W (upd H p<|.lst ys) {s with heap:=s.heap.update p f,toks:=t}:=by
 have e:(s.heap.update p f).get? p=some {cls:= .type "list",data:= .seq its'.toArray J}:=by
  rw[Heap.get?_update_self f ho (by rw[Y]<;>rfl),Y]
 refine I.write (by rw[h];trivial) (.inl rfl) (λb u hb q=>(Heap.get?_update_other _ _<|Ne.symm hb).trans q) ⟨_,e⟩ ?_
 exact⟨Z,its',J,r,e⟩
def DF:V->V->V->Hp->(Hp->Prop)->Prop:=λo i v H Q=>∃p xs k j,o=.ref p/\i=.int k/\H p=some (.lst xs)/\Aw xs.length k=some j/\Q (upd H p<|.lst<|xs.set j v)
def set_list:ER X DF:=by
 intro pins s W H o i v ov iv u Q I ro ri rv h;obtain⟨p,xs,k,j,rfl,rfl,Z,hj,q⟩:=h;subst ro;obtain⟨t,rfl⟩:=ri;obtain⟨its,n,r,ho,hz⟩:=I.lst Z;obtain⟨h1,h2,h3,h4⟩:=tF hj;have J:=r.length;have hn:=oq
 have I':=
  I.lstUpd Z ho (rh its n j u) (r.set rv j) (by rw[aG];exact hz) s.toks
 by_cases h0:0<=k
 .have Y:k.toNat=j:=by rw[seqIndex_of h0 h4] at h1;exact ak h1
  exact PySem.W.ki_setAt ho h0 (by lia) (by rw[size_toArray,<-J];exact h4) (by rw[Y];exact⟨_,I',q⟩)
 .have Y:(k+(its.toArray.size:Int)).toNat=j:=by
   rw[seqIndex_neg (by omega) h3] at h1
   rw[size_toArray,<-J];exact ak h1
  exact PySem.W.ki_setBack ho (by omega) (by rw[size_toArray,<-J];exact h3) (by lia) (by rw[Y];exact⟨_,I',q⟩)
def nY(lo hi:Option Int)(n:Nat):(sliceBounds lo hi none n).1=((HT.c_ n 0 lo:Nat):Int)/\(sliceBounds lo hi none n).2.1=((HT.c_ n n hi:Nat):Int)/\(sliceBounds lo hi none n).2.2=1:=by
 refine⟨?_,?_,rfl⟩
 .cases lo with
  |none=>simp[sliceBounds,HT.c_]
  |some i=>
   simp only[sliceBounds,HT.c_,getD_none,show(1:Int)>0 by decide,if_true]
   by_cases h:i<0
   .simp only[h,if_true]<;>omega
   .simp only[h,if_false]<;>omega
 .cases hi with
  |none=>simp[sliceBounds,HT.c_]
  |some i=>
   simp only[sliceBounds,HT.c_,getD_none,show(1:Int)>0 by decide,if_true]
   by_cases h:i<0
   .simp only[h,if_true]<;>omega
   .simp only[h,if_false]<;>omega
def mq(its:List Value)(lo hi:Option Int):slicePick its.toArray lo hi none=((its.drop<|HT.c_ its.length 0 lo).take<|HT.c_ its.length its.length hi - HT.c_ its.length 0 lo).toArray:=by obtain⟨h1,I,h⟩:=nY lo hi its.toArray.size;unfold slicePick;rw[h1,I,h];simp only[sliceRange_one,pick_run]<;>rfl
def FG(K:aw):V->Option Int->Option Int->Hp->VK->Prop:=λx lo hi H Q=>∃a xs,x=.ref a/\dG K H a xs/\∀p,H p=none->Q (.ref p) (upd H p<|.lst<|uT xs lo hi)
def yA:EN X (FG X.K):=by
 intro pins s W H x v vl vu lo hi sl Q I Z hs pl pu h;obtain⟨a,xs,rfl,hx,q⟩:=h;subst Z;obtain⟨its,r,Y,hz⟩:=I.list hx;have J:=r.length;refine⟨"list",_,slot_list_getitem.lookup,Y.isList.typeIs,?_⟩;refine wpAny_getItem_list_slice Y.isList hs pl pu .none (by simp) ?_ (by simp_all)
 rw[mq,<-J];refine⟨.ref s.heap.objs.size,_,I.laid (λb ob q=>ac _ q) (af _) ?_,rfl,q _<|I.hok.fresh<|af _⟩;exact⟨ao (jX xs lo hi) hz,_,0,(r.drop _).take _,aj _ rfl⟩
noncomputable def cT:V->Bool
 | .non=>true
 | .bl _=>true
 | .int _=>true
 | .str _=>true
 |_=>false
noncomputable def rP:V->V->Bool
 | .non,.non=>true
 | .bl a,.bl b=>a==b
 | .bl a,.int b=>(if a then 1 else 0)==b
 | .int a,.bl b=>a==(if b then 1 else 0)
 | .int a,.int b=>a==b
 | .str a,.str b=>a==b
 |_,_=>false
def Cp(I:RelV y u)(h:RelV x v)(Y:cT y=true)(J:cT x=true):SeqAt.EqAt A s u v (rP y x):=by
 cases y with
 |non=>
  cases I;cases x with
  |non=>subst h;exact SeqAt.EqAt.same _
  |bl b=>subst h;exact SeqAt.EqAt.none_bool b
  |int b=>obtain⟨t,rfl⟩:=h;exact SeqAt.EqAt.none_int b t
  |str b=>obtain⟨t,rfl⟩:=h;exact SeqAt.EqAt.none_str b t
  |_=>exact rO J
 |bl a=>
  subst I;cases x with
  |non=>subst h;exact SeqAt.EqAt.bool_none a
  |bl b=>subst h;exact SeqAt.EqAt.bool_bool a b
  |int b=>obtain⟨t,rfl⟩:=h;exact SeqAt.EqAt.bool_int a b t
  |str b=>obtain⟨t,rfl⟩:=h;exact SeqAt.EqAt.bool_str a b t
  |_=>exact rO J
 |int a=>
  obtain⟨t',rfl⟩:=I;cases x with
  |non=>subst h;exact SeqAt.EqAt.int_none a t'
  |bl b=>subst h;exact SeqAt.EqAt.int_bool a t' b
  |int b=>obtain⟨t,rfl⟩:=h;exact SeqAt.EqAt.int_int a t' b t
  |str b=>obtain⟨t,rfl⟩:=h;exact SeqAt.EqAt.int_str a t' b t
  |_=>exact rO J
 |str a=>
  obtain⟨t',rfl⟩:=I;cases x with
  |non=>subst h;exact SeqAt.EqAt.str_none a t'
  |bl b=>subst h;exact SeqAt.EqAt.str_bool a t' b
  |int b=>obtain⟨t,rfl⟩:=h;exact SeqAt.EqAt.str_int a t' b t
  |str b=>obtain⟨t,rfl⟩:=h;exact SeqAt.EqAt.str_str a t' b t
  |_=>exact rO J
 |_=>exact rO Y
def inV(x:V)(xs:List V):Bool:=xs.any λy=>rP y x
def oT:dg X (.builtin "len") (λxs H Q=>∃p ys,xs=[.ref p]/\(dG X.K H p ys\/dY X.K H p ys)/\Q (.int ys.length) H):=by
 intro pins s W H xs us Q I r h;obtain⟨p,ys,rfl,Y,q⟩:=h;obtain⟨u,rfl,rx⟩:=vals1 r;subst rx;have hn:=oq;rcases Y with Y|Y
 .obtain⟨its,Z,pl,hz⟩:=I.list Y;have J:=Z.length;exact Calls.call_len_list pl.isList (by simp only[size_toArray]<;>omega) ⟨.int ys.length,H,I.tok _,⟨s.toks+1,by rw[size_toArray,J]⟩,q⟩
 .obtain⟨its,Z,pl,hz⟩:=I.tuple Y;have J:=Z.length;exact len_tuple pl (by simp only[size_toArray]<;>omega) ⟨.int ys.length,H,I.tok _,⟨s.toks+1,by rw[size_toArray,J]⟩,q⟩
def oS:dg X (.type "list") (λxs H Q=>∃p ys,xs=[.ref p]/\(dG X.K H p ys\/dY X.K H p ys)/\∀l,H l=none->Q (.ref l) (upd H l<|.lst ys)):=by
 intro pins s W H xs us Q I r h;obtain⟨p,ys,rfl,Z,q⟩:=h;obtain⟨u,rfl,rx⟩:=vals1 r;subst rx
 have fin:∀(its:List Value),bq ys its->ys.length<=sizeLine->∀(h':Heap)(c':Nat),(∀b o',s.heap.get? b=some o'->h'.get? b=some o')->
   h'.get? s.heap.objs.size=some {cls:= .type "list",dict:=none,data:= .seq its.toArray c',slots:= #[]}->EP X pins W Q (.ref s.heap.objs.size) {s with heap:=h'}:=λits J Y h' c' kp e=>
  ⟨.ref s.heap.objs.size,_,I.laid (t':=s.toks) kp (af _) (show bL X.prog X.w _ h' _ (.lst ys) from⟨Y,its,c',J,e⟩),rfl,q _<|I.hok.fresh<|af _⟩
 rcases Z with Z|Z
 .obtain⟨its,J,pl,Y⟩:=I.list Z;have hlen:=J.length;obtain⟨o,ho,hc,n,hd⟩:=pl.isList;exact call_list_seq p (.inl rfl) ho hc hd (λh' c' kp e=>fin its J Y h' c' kp e) (by simp_all)
 .obtain⟨its,J,pl,Y⟩:=I.tuple Z;have hlen:=J.length;obtain⟨o,ho,hc,n,hd⟩:=pl;exact call_list_seq p (.inr rfl) ho hc hd (λh' c' kp e=>fin its J Y h' c' kp e) (by simp only[size_toArray]<;>lia)
def eV:dg X (.type "tuple") (λxs H Q=>∃p ys,xs=[.ref p]/\((dG X.K H p ys/\∀l,H l=none->Q (.ref l) (upd H l<|.tup ys))\/(dY X.K H p ys/\Q (.ref p) H))):=by
 intro pins s W H xs us Q I r h;obtain⟨p,ys,rfl,h⟩:=h;obtain⟨u,rfl,rx⟩:=vals1 r;subst rx;rcases h with⟨hq,q⟩|⟨hq,q⟩
 .obtain⟨its,J,Y,Z⟩:=I.list hq;have hlen:=J.length;refine call_tuple_list Y.isList (λh' kp=>?_) (by simp_all)
  have I1:=I.kept (t':=s.toks) kp
  have I2:=
   I1.laid (t':=s.toks) (λb o e=>ac _ e) (af _) (show bL X.prog X.w _ _ _ (.tup ys) from⟨Z,its,J,ko.new _ _⟩)
  exact⟨.ref h'.objs.size,_,I2,rfl,q _<|I1.hok.fresh<|af _⟩
 .obtain⟨its,J,Y,Z⟩:=I.tuple hq;exact call_tuple_same Y ⟨.ref p,H,I,rfl,q⟩
def Fg(K:aw)(T:String)(x:V)(H:Hp):Prop:=match x with
 | .str _=>T= "str"
 | .int _=>T= "int"
 | .ref p=>(T= "list" /\∃xs,dG K H p xs)\/(T= "tuple" /\∃o,K.lookup p=some o/\o.cls=.type "tuple" /\o.dict=none)\/
   (T= "dict" /\((∃kvs,H p=some (.dK kvs))\/∃kvs,H p=some (.dT kvs)))\/(T= "set" /\∃S n,H p=some (.set S n))
 |_=>False
def vG{W:St}{H:Hp}{T:String}(I:Inv X pins W H s)(r:RelV x v)(ty:Fg X.K T x H):
  s.TypeIs v T/\∀a,v=.ref a->∃Y,s.heap.get? a=some Y/\Y.dict=none:=by
 cases x with
 |str z=>obtain⟨t,rfl⟩:=r;cases(show T= "str" from ty);exact⟨typeIs_str s z t,λ_ e=>nomatch e⟩
 |int i=>obtain⟨t,rfl⟩:=r;cases(show T= "int" from ty);exact⟨typeIs_int s i t,λ_ e=>nomatch e⟩
 |ref p=>
  subst r;rcases ty with⟨rfl,xs,hq⟩|⟨rfl,o,hk,hc,hd⟩|⟨rfl,hk⟩|⟨rfl,S,n,hk⟩
  .obtain⟨its,_,J,_⟩:=I.list hq;refine⟨J.isList.typeIs,λa e=>?_⟩;cases e;obtain⟨o,n,e,c,hd,_⟩:=J;exact⟨o,e,hd⟩
  .refine⟨⟨o,I.kIn p o hk,hc⟩,λa e=>?_⟩;cases e;exact⟨o,I.kIn _ o hk,hd⟩
  .have z:∃o,s.heap.get? p=some o/\o.ExactDict:=by
    rcases hk with⟨kvs,hk⟩|⟨kvs,hk⟩
    .obtain⟨_,_,_,_,o,_,_,e,ex,_⟩:=I.hok p _ hk;exact⟨o,e,ex⟩
    .obtain⟨_,_,_,_,o,_,_,e,ex,_⟩:=I.hok p _ hk;exact⟨o,e,ex⟩
   obtain⟨o,e,ex⟩:=z;refine⟨⟨o,e,ex.1⟩,λa h=>?_⟩;cases h;exact⟨o,e,ex.2.1⟩
  .obtain⟨o,_,_,_,e,ex,_⟩:=I.hok p _ hk;refine⟨⟨o,e,ex.1⟩,λa h=>?_⟩;cases h;exact⟨o,e,ex.2.1⟩
 |_=>exact False.elim ty
def Fw(K:aw)(T:String)(r:V->List V->Hp->VK->Prop)(to:TE):TE:=λW H Q=>to W H λx H1=>Fg K T x H1/\r x [] H1 Q
def GQ(K:aw)(T:String)(r:V->List V->Hp->VK->Prop)(to:TE)(t:TA):TE:=λW H Q=>to W H λx H1=>Fg K T x H1/\t W H1 λxs H2=>r x xs H2 Q
variable{o e:Expr}{es:List Expr}{to:TE}{t:TA}{name:Str}{apos cpos:Pos}{T id:String}{r:V->List V->Hp->VK->Prop}
def BH(pa:PlainAttrs T)(slot:Slot T name id)(Y:typeOf (.builtin id)=pure (.type "method_descriptor"))(hm:GH X id r)(ho:PE X o to)
  (J:attributeBase o name X.env (eval o X.env)=eval o X.env:=by rfl)(hline:(apos.endLine==cpos.line)=true:=by rfl):PE X (.Call (.Attribute o name apos) [] [] cpos) (Fw X.K T r to):=by
 intro pins s W H Q I h;refine wpAny_Call_method0_late J hline<|bR (ho pins s W H _ I h) λv s1 hp=>?_;obtain⟨x,H1,I1,Z,ty,q1⟩:=hp;obtain⟨h1,h2⟩:=vG I1 Z ty;exact⟨T,id,pa,slot,Y,h1,h2,Calls.callWith_builtin rfl<|PySem.evalArgs_none<|hm pins s1 W H1 x [] v [] Q I1 Z .nil q1⟩
def wE(pa:PlainAttrs T)(slot:Slot T name id)(Y:typeOf (.builtin id)=pure (.type "method_descriptor"))(hm:GH X id r)(ho:PE X o to)(ha:PA X (e::es) t)
  (J:attributeBase o name X.env (eval o X.env)=eval o X.env:=by rfl)
  (hfew:((backTo cpos<|starEach (e::es) X.env).all (λx=> !x.1)&&(backToKw cpos<|keywordEach [] X.env).all (λx=>x.1.isSome)
   &&decide ((e::es).length+([]:List Keyword).length+(if([]:List Keyword).isEmpty then 0 else 1)<30))=true:=by rfl)
  (hline:(apos.endLine==cpos.line)=true:=by rfl)(hs:starEach (e::es) X.env=(false,eval e X.env)::starEach es X.env:=by rfl)(hplain:(backTo cpos<|starEach es X.env).any (·.1)=false:=by rfl):
  PE X (.Call (.Attribute o name apos) (e::es) [] cpos) (GQ X.K T r to t):=by
 intro pins s W H Q I h;refine wpAny_Call_method_late J hfew hline rfl<|bR (ho pins s W H _ I h) λv s1 hp=>?_;obtain⟨x,H1,I1,Z,ty,q1⟩:=hp;obtain⟨h1,h2⟩:=vG I1 Z ty;refine⟨T,id,pa,slot,Y,h1,h2,?_⟩;have hA:=ha cpos pins s1 W H1 _ I1 q1;rw[hs] at hA ⊢;refine Calls.callWith_builtin (by trivial)<|Calls.evalArgs_plain ?_
 exact bR hA λus s2 ⟨vs,H2,I2,r2,q2⟩=>hm pins s2 W H2 x vs v us Q I2 Z r2 q2
end
def EU(X:Cx)(id:String)(r:V->List V->Hp->VK->Prop):Prop:=
 ∀(pins:List (Addr×Obj))(s:Shared)(W:St)(H:Hp)(x:V)(xs:List V) (v:Value) (us:List Value)(Q:VK),Inv X pins W H s->RelV x v->bq xs us->r x xs H Q->
  wpAny (model X.prog X.w) X.A (call (.builtin id)<|v::us) (EP X pins W Q) X.xe s
theorem bq.one:∀{x:V}{us:List Value},bq [x] us->∃u,us=[u]/\RelV x u
 |_,_,.cons r .nil=>⟨_,rfl,r⟩
theorem bq.zero:∀{us:List Value},bq [] us->us=[]
 |_,.nil=>rfl
theorem bq.eraseIdx:∀{xs:List V}{us:List Value}(i:Nat),bq xs us->bq (xs.eraseIdx i) (us.eraseIdx i)
 |_,_,_,.nil=>.nil
 |_,_,0,.cons _ t=>t
 |_,_,i+1,.cons r t=>.cons r<|bq.eraseIdx i t
theorem bq.rep(h:bq xs us):∀k:Nat,bq (replicate k xs).flatten (replicate k us).flatten
 |0=>.nil
 |k+1=>by exact bq.append h<|bq.rep h k
theorem mZ{α:Type}:∀(l:List α)(i:Nat),(l.eraseIdx i).length<=l.length
 |[],_=>af _
 |_::_,0=>le_succ _
 |_::r,i+1=>succ_le_succ<|mZ r i
theorem foldl_rep(its:List Value):∀(k:Nat)(acc:List Value),
  foldl (λh x2=>h++x2) acc.toArray (replicate k its.toArray)=(acc++(replicate k its).flatten).toArray
 |0,acc=>by simp
 |k+1,acc=>by
  have e:acc.toArray++its.toArray=(acc++its).toArray:=by simp
  have I:(acc++its)++(replicate k its).flatten=acc++(replicate (k+1) its).flatten:=by rw[List.replicate_succ,List.flatten_cons,append_assoc]
  rw[<-I,<-foldl_rep its k _,<-e,List.replicate_succ,foldl_cons]
section
variable{X:Cx}{pins:List (Addr×Obj)}{W:St}{H:Hp}{s:Shared}{l:Addr}{xs ys:List V}
def Inv.lset{f:Array Value->Array Value}(I:Inv X pins W H s)(hH:H l=some (.lst xs))
  (e:s.heap.get? l=some {cls:= .type "list",data:= .seq its.toArray n}) (Z:f its.toArray=its'.toArray)(J:bq ys its')(h:ys.length<=sizeLine):
  Inv X pins W (upd H l<|.lst ys) {s with heap:=s.heap.update l (Obj.mapSeq f),toks:=t'}:=by
 have q:=PySem.IsL.update e f;rw[Z] at q;refine I.write (by rw[hH];exact trivial) (.inl rfl) (λb' u hb Y=>(Heap.get?_update_other s.heap _<|Ne.symm hb).trans Y) ⟨_,q⟩ ?_
 exact⟨h,its',_,J,q⟩
def Inv.lnew(I:Inv X pins W H s)(J:bq ys its)(h:ys.length<=sizeLine):
  Inv X pins W (upd H s.heap.objs.size<|.lst ys) {s with heap:=s.heap.push {cls:= .type "list",data:= .seq its.toArray},toks:=t'}:=
 I.laid (λ_ _ q=>ac _ q) (af _) ⟨h,its,0,J,aj _ rfl⟩
theorem Inv.fresh(I:Inv X pins W H s):H s.heap.objs.size=none:=I.hok.fresh<|af _
def Inv.lstM(I:Inv X pins W H s)(h:H l=some (.lst xs)):xs.length<=sizeLine/\∃(its:List Value)(n:Nat),bq xs its/\xs.length=its.length/\s.heap.get? l=some {cls:= .type "list",data:= .seq its.toArray n}:=by obtain⟨z,its,n,r,e⟩:=I.hok l _ h;exact⟨z,its,n,r,r.length,e⟩
def lD(h:n<=sizeLine):Builtin.List.listTooLong n=false:=by
 unfold Builtin.List.listTooLong;exact decide_eq_false (by omega)
end
section
variable{X:Cx}
def yS:V->List V->Hp->VK->Prop:=λx vs H Q=>∃l xs y,x=.ref l/\vs=[y]/\H l=some (.lst xs)/\xs.length<sizeLine/\Q .non (upd H l<|.lst<|xs++[y])
def jx:EU X "list.append" yS:=by
 intro pins s W H x vs v us Q I Y rv h;obtain⟨l,xs,y,rfl,rfl,J,hz,q⟩:=h;subst Y;obtain⟨u,rfl,Z⟩:=rv.one;obtain⟨z,its,n,r,hl,e⟩:=I.lstM J;refine call_meets F.slot_list_append ⟨_,e,rfl⟩ F.entry_list_append (F.args_list_append_2 _ _) (PySem.list_append l its.toArray n u (by rw[size_toArray];lia)) ⟨e,?_⟩
 refine⟨.non,_,I.lset (its':=its++[u]) J e (by simp) (r.append<|.cons Z .nil) ?_,rfl,q⟩
 rw[aD,length_singleton]
 lia
def yR:V->List V->Hp->VK->Prop:=λx vs H Q=>∃l b xs zs,x=.ref l/\vs=[.ref b]/\H l=some (.lst xs)/\H b=some (.lst zs)/\xs.length+zs.length<=sizeLine/\Q .non (upd H l<|.lst<|xs++zs)
def ur:EU X "list.extend" yR:=by
 intro pins s W H x vs v us Q I Z rv h;obtain⟨l,b,xs,zs,rfl,rfl,Y,hB,hz,q⟩:=h;subst Z;obtain⟨u,rfl,ru⟩:=rv.one;subst ru;obtain⟨z,its,n,r,hl,e⟩:=I.lstM Y;obtain⟨z2,its2,n2,r2,hl2,e2⟩:=I.lstM hB;have hsz:its.toArray.size+its2.toArray.size<=sizeLine:=by simp_all
 have J:¬(!its.toArray.isEmpty&&Builtin.List.listTooLong (its.toArray.size+its2.toArray.size))=true:=by rw[lD hsz,Bool.and_false];exact bf
 refine call_meets F.slot_list_extend ⟨_,e,rfl⟩ F.entry_list_extend (F.args_list_extend_2 _ _)
  (AutoSeq1.list_extend_list_list_0 l its.toArray n b its2.toArray n2 J (by rw[size_toArray];lia) (by lia)) ⟨e,e2,?_⟩
 refine⟨.non,_,I.lset (its':=its++its2) Y e (by simp) (r.append r2) ?_,rfl,q⟩
 simp_all
def Bi:V->List V->Hp->VK->Prop:=λx vs H Q=>∃l xs i k y,x=.ref l/\vs=[.int i]/\H l=some (.lst xs)/\ -(2^63)<=i/\i<2^63/\seqIndex? i xs.length=some k/\xs[k]? =some y/\Q y (upd H l<|.lst<|xs.eraseIdx k)
def wM:EU X "list.pop" Bi:=by
 intro pins s W H x vs v us Q I Z rv h;obtain⟨l,xs,i,k,y,rfl,rfl,Y,h1,h2,hk,hy,q⟩:=h;subst Z;obtain⟨u,rfl,ru⟩:=rv.one;obtain⟨t,rfl⟩:=ru;obtain⟨z,its,n,r,hl,e⟩:=I.lstM Y;obtain⟨w,hw,J⟩:=r.get hy
 refine call_meets F.slot_list_pop ⟨_,e,rfl⟩ F.entry_list_pop (F.args_list_pop_2 _ _)
  (MeetsSeq.list_pop_at l its.toArray n i t k w (fitsIndex_both h1 h2) (by simp_all) (by simp_all) (by rw[size_toArray];lia)) ⟨e,?_⟩
 refine⟨y,_,I.lset (its':=its.eraseIdx k) Y e ?_ (r.eraseIdx k) ?_,J,q⟩
 .simp
 .have:=mZ xs k
  lia
def Bl:V->List V->Hp->VK->Prop:=λx vs H Q=>∃l xs,x=.ref l/\vs=[]/\H l=some (.lst xs)/\Q .non (upd H l<|.lst [])
def wN:EU X "list.clear" Bl:=by
 intro pins s W H x vs v us Q I Z rv h;obtain⟨l,xs,rfl,rfl,Y,q⟩:=h;subst Z;have J:=rv.zero;subst J;obtain⟨z,its,n,r,hl,e⟩:=I.lstM Y;refine call_meets F.slot_list_clear ⟨_,e,rfl⟩ F.entry_list_clear (F.args_list_clear_1 _) (AutoSeq1.list_clear_list_0 l its.toArray n (by simp_all)) ⟨e,?_⟩
 exact⟨.non,_,I.lset (ys:=[]) Y e rfl .nil<|zero_le _,rfl,q⟩
def FL:R2:=λx y H Q=>∃l b xs zs,x=.ref l/\y=.ref b/\H l=some (.lst xs)/\H b=some (.lst zs)/\xs.length+zs.length<=sizeLine/\∀p,H p=none->Q (.ref p) (upd H p<|.lst<|xs++zs)
def BP:jM X (binaryOp .Add) FL:=by
 intro pins s W H x y v u Q I Y J h;obtain⟨l,b,xs,zs,rfl,rfl,hH,hB,hz,q⟩:=h;subst Y;subst J;obtain⟨z,its,n,r,hl,e⟩:=I.lstM hH;obtain⟨z2,its2,n2,Z,hl2,e2⟩:=I.lstM hB;refine PySem.P.add_list e e2 ?_ (by simp_all)
 have ea:its.toArray++its2.toArray=(its++its2).toArray:=by simp
 rw[ea];exact⟨.ref _,_,I.lnew (r.append Z) (by simp_all),rfl,q _ I.fresh⟩
def FH:R2:=λx y H Q=>∃l k xs,x=.ref l/\y=.int k/\H l=some (.lst xs)/\ -(2^63)<=k/\k<2^63/\xs.length*k.toNat<=sizeLine/\
 ∀p,H p=none->Q (.ref p) (upd H p<|.lst (replicate k.toNat xs).flatten)
def len_rep{α:Type}(xs:List α)(k:Nat):(replicate k xs).flatten.length=k*xs.length:=by simp
def BM:jM X (binaryOp .Mult) FH:=by
 intro pins s W H x y v u Q I rx ry h;obtain⟨l,k,xs,rfl,rfl,hH,h1,h2,hz,q⟩:=h;subst rx;obtain⟨t,rfl⟩:=ry;obtain⟨z,its,n,r,hl,e⟩:=I.lstM hH;have Z:its.toArray.size*k.toNat<=sizeLine:=by rw[size_toArray,<-hl];exact hz
 have hcap:¬its.toArray.size*k.toNat>(2^63 - 1) / 8:=by
  have:(sizeLine:Nat)<=(2^63 - 1) / 8:=by decide
  lia
 have hfit:¬(!Builtin.List.listFitsIndex k)=true:=by rw[fitsIndex_both h1 h2];exact bf
 have J:¬Builtin.List.listTooLong (its.toArray.size*k.toNat)=true:=by rw[lD Z];exact bf
 have Y:foldl (λx1 x2=>x1++x2) #[] (replicate (if its.toArray.isEmpty=true then 0 else k.toNat) its.toArray)=(replicate k.toNat its).flatten.toArray:=by
  have f0:=λm=>by have:=foldl_rep its m [];rw[nil_append] at this;exact this
  rw[f0];cases its with
  |nil=>simp
  |cons a r'=>rw[if_neg (by simp)]
 refine wpAny_binaryOp_repeat_ref (T:= "list") (U:= "int") (by decide) ⟨_,e,rfl⟩ (λs'=>typeIs_int s' k t) noFill_list_mul F.fills_int_mul F.slot_int_rmul repeat_list F.slot_int_index.lookup
  (call_meets F.slot_int_rmul (typeIs_int s k t) F.entry_int_rmul (F.args_int_rmul_2 _ _) (int___rmul___int_list k t l its.toArray n)
   ⟨e,rfl,⟨_,e,rfl⟩,call_meets F.slot_list_mul ⟨_,e,rfl⟩ F.entry_list_mul (F.args_list_mul_2 _ _) (AutoListH.list___mul___list_int_3 l its.toArray n k t hfit hcap J) ⟨e,?_⟩⟩)
 rw[Y];exact⟨.ref _,_,I.lnew (t':=s.toks) (r.rep k.toNat) (by rw[len_rep,Nat.mul_comm];exact hz),rfl,q _ I.fresh⟩
end
section
end
section
end
end L2
namespace Att
open PySem.W PySem.Calls
def j8{P:Params}:∀(ns:List Int)(vs:List Value),WellAll P h vs (ns.map WData.int)->IntsAre vs ns:=by
 intro ns
 induction ns with
 |nil=>intro vs w;cases w;exact .nil
 |cons n ns ih=>
  intro vs w;cases w with
  |cons a b=>cases a;exact .cons _ _<|ih _ b
def uc{l:OpenLaw}{n:Nat}(hn:l.most=some n){P:Params}{args:List WData}{vals:List Value}
  (I:l.row.toRowW.claim.pre args=true)(Z:WellAll P h vals args):
  ∃a vs ns,vals=[Value.ref a]/\args=[WData.list<|ns.map WData.int]/\h.get? a=some {cls:= .type "list",data:= .seq vs.toArray}/\IntsAre vs ns/\ns.length<=n:=by
 have hsh:WShape.hasAll [] args [.list .int]=true:=(pre_splitW I).1;have hc:l.pre.holds [] {args:=args}=true:=(pre_splitW I).2;obtain⟨d,r,rfl,h1,h2⟩:=hasAllW_cons hsh;obtain rfl:=hasAllW_nil h2;obtain⟨xs,rfl,h3⟩:=hasW_list h1;obtain⟨ns,rfl⟩:=items_int h3
 have J:ns.length<=n:=by
  have Y:=by have Y:=(holds_andW hc).1;rw[hn] at Y;exact Y
  have h5:=condW_of Y<|w_not<|w_lt w_lit<|w_len_list<|w_arg rfl
  simp_all
 cases Z with
 |cons w1 w2=>
  cases w2;cases w1 with
  |list ho hall=>exact⟨_,_,ns,rfl,rfl,ho,j8 ns _ hall,J⟩
def ug(l:OpenLaw)(args:List WData):l.row.toRowW.claim.post args (.bool true) args=true:=
 postW_of
  (show WShape.has [] _ .bool=true by rfl)
  (show(WTm.eq .res _).value [] {args:=args,res:=some _,after:=args}=some _ from w_eq_bool (w_res rfl) w_lit) rfl
def ql{l:OpenLaw}{n:Nat}{q:Program}{loose:List Str}{XP:(Str->Option Value)->Heap->Prop}{YP:World->Heap->Prop}{d:DefRec}
  (hn:l.most=some n)(hdf:d.params.defaults=[])
  (call:∀(w:World)(s₀ s₁:Shared)(mg mb:Str->Option Value)(fa:Addr)(o:Obj)(pm cd I:Value)(a:Addr)(vs:List Value) (ns:List Int),
   Ground q loose [] XP w s₀ mg mb s₁.heap->YP w s₁.heap->
   s₁.heap.get? fa=some o->o.data=.func (docDef d.name d.params d.body d.scope pm cd I)->s₁.heap.CodeRec cd d.name->mg d.name=some (.ref fa)->
   s₁.heap.get? a=some {cls:= .type "list",data:= .seq vs.toArray}->IntsAre vs ns->ns.length<=n->s₁.gens= #[]->
   codeAny (model l.prog w) callerA (.call (.ref fa) ⟨[.ref a],[]⟩) (λr s'=>r=.ok (.ret<|.bool true)/\OldK s₁.heap s'.heap/\s'.os=s₁.os/\AllBare s'.gens) s₁):
  WalkO q loose XP YP l.row.toRowW d [] (λf vs=>PySem.call f vs):=by
 intro w s₀ s₁ mg mb G Y fa o pm cd I dV kV ho hd hcd hD hmg hg args vals as J hlay hrd hwl hlo;obtain rfl:dV=.none:=Dflts.none hD hdf;obtain rfl:kV=.none:=Dflts.noKw hD;obtain⟨a,vs,ns,rfl,rfl,Z,h,hlen⟩:=uc hn J hwl;refine enter_call<|codeAny_mono (call w s₀ s₁ mg mb fa o pm cd I a vs ns G Y ho (fd_plain hd) hcd hmg Z h hlen hg) λr s' hq=>?_;obtain⟨rfl,h2,h3,h4⟩:=hq;exact⟨.inl ⟨.bool true,.bool true,[],rfl,λ_=>rfl,.bool true,ug l _,λ_=>⟨Pairwise.nil,λ_ hm=>(nomatch hm)⟩⟩,h2,h3,h4⟩
section
end
end Att
namespace L2
variable{a f:Addr}{qual x:Str}{u:Value}{y:V}{xs:List (List Key×Addr×Value)}{kvs:List (List Key×V)}{H H':Hp}{Q:Value->Shared->Prop}{X:Cx}
theorem mJ:∀{vs:List Value}{ns:List Int},IntsAre vs ns->bq (ns.map V.int) vs
 |_,_,.nil=>.nil
 |_,_,.cons n t h=>.cons ⟨t,rfl⟩<|mJ h
noncomputable def fV(s:Stmt):Arguments:=match s with
 | .FunctionDef _ a _ _ _ _ _ _ _ _=>a
 |_=>{posonlyargs:=[],args:=[],vararg:=none,kwonlyargs:=[],kw_defaults:=[],kwarg:=none,defaults:=[]}
noncomputable def cx(s:Stmt):List Stmt:=match s with
 | .FunctionDef _ _ b _ _ _ _ _ _ _=>b
 |_=>[]
noncomputable def aX(s:Stmt):Scope:=match s with
 | .FunctionDef _ _ _ _ _ _ sc _ _ _=>sc
 |_=>{kind:= .function,names:=[],isGenerator:=false,isCoroutine:=false}
abbrev E0:XK:=λ_ _ _=>False
structure Fun(K:aw)(x qual:Str)(st:Stmt)(f:Addr)(fd:FuncData):Prop where
 ex:∃(oc:Value)(od:Option Addr)(kV doc pm:Value)(an:Option Addr)(cdv ct:Value)(osl:Array (Option Value)),
  fd=PySem.W.fnOf x qual (fV st) (cx st) (aX st) .none kV doc pm an cdv ct/\K.lookup f=some ⟨oc,od,.func fd,osl⟩/\PySem.W.codeIn K cdv qual=true
 kp:PySem.W.keepIn K (.ref f)=true
section
variable{K:aw}
def Fun.binds{st:Stmt}{fd:FuncData}{ps:List Str}(F:Fun K x qual st f fd)
  (h:∀(kV I Y:Value)(Z:Option Addr)(J ct:Value)(us:List Value),us.length=ps.length->bindArgs (PySem.W.fnOf x qual (fV st) (cx st) (aX st) .none kV I Y Z J ct) ⟨us,[]⟩=pure (ps.zip us)):Binds K fd ps []:=by
 obtain⟨oc,od,kV,I,Y,Z,J,ct,osl,rfl,lk,hcd⟩:=F.ex;exact .all<|h kV I Y Z J ct
def Ch{st:Stmt}{od Z:Option Addr}{J:Array (Option Value)}{kV I Y h ct:Value}(l:K.lookup f=some ⟨oc,od,.func<|PySem.W.fnOf x qual (fV st) (cx st) (aX st) .none kV I Y Z h ct,J⟩)
  (c:PySem.W.codeIn K h qual=true)(k:PySem.W.keepIn K (.ref f)=true):Fun K x qual st f (PySem.W.fnOf x qual (fV st) (cx st) (aX st) .none kV I Y Z h ct):=⟨⟨oc,od,kV,I,Y,Z,h,ct,J,rfl,l,c⟩,k⟩
end
section
end
set_option linter.unusedVariables false
section
variable{κ:Type}[DecidableEq κ]
noncomputable def gt(kvs:List (κ×V))(k:κ):Option V:=(kvs.find? λkv=>decide<|kv.1=k).map (·.2)
noncomputable def putK(kvs:List (κ×V))(k:κ)(v:V):List (κ×V):=
 if(kvs.any λkv=>decide<|kv.1=k)=true then kvs.map (λkv=>if kv.1=k then(kv.1,v) else kv) else kvs++[(k,v)]
def gq{p:κ×V}{r:List (κ×V)}{k:κ}(e:p.1=k):gt (p::r) k=some p.2:=by simp[gt,List.find?_cons,e]
def d9{p:κ×V}{r:List (κ×V)}{k:κ}(e:¬p.1=k):gt (p::r) k=gt r k:=by simp[gt,List.find?_cons,e]
theorem kY(k:κ):∀kvs:List (κ×V),(kvs.any λkv=>decide<|kv.1=k)=(gt kvs k).isSome
 |[]=>rfl
 |p::r=>by
  rw[any_cons];by_cases e:p.1=k
  .simp only[gq e,decide_eq_true e,Bool.true_or,Option.isSome_some]
  .rw[d9 e,decide_eq_false e,Bool.false_or];exact kY k r
def eK(kvs:List (κ×V))(k:κ)(v:V):(putK kvs k v).length<=kvs.length+1:=by
 unfold putK;split
 .simp
 simp
def wo{kvs:List (κ×V)}{k:κ}(v:V)(h:gt kvs k=none):putK kvs k v=kvs++[(k,v)]:=by unfold putK;rw[kY,h];rfl
def iE.isSome_eq{o:Option V}{u:Option Value}(r:iE o u):o.isSome=u.isSome:=by
 cases o with
 |none=>cases u with
  |none=>rfl
  |some _=>trivial
 |some _=>cases u with
  |none=>trivial
  |some _=>rfl
def KV.val{kvs:List (κ×V)}{vs:List (κ×Value)}(r:KV kvs vs)(k:κ):iE (gt kvs k) (valueAt vs k):=by
 induction r with
 |nil=>exact True.intro
 | @cons p q ps qs h t ih=>
  obtain⟨h1,I⟩:=h;by_cases e:p.1=k
  .have e':q.1=k:=h1.symm.trans e;have b:valueAt (q::qs) k=some q.2:=by simp[valueAt,e']
   rw[gq e,b];exact I
  .have e':¬q.1=k:=λz=>e<|h1.trans z;have b:valueAt (q::qs) k=valueAt qs k:=by simp[valueAt,List.find?_cons,e']
   rw[d9 e,b];exact ih
theorem KV.any{kvs:List (κ×V)}{vs:List (κ×Value)}(r:KV kvs vs)(k:κ):(kvs.any λkv=>decide<|kv.1=k)=vs.any λkv=>decide (kv.1=k):=by
 induction r with
 |nil=>rfl
 |cons h t ih=>simp_all
def KV.repl{kvs:List (κ×V)}{vs:List (κ×Value)}(r:KV kvs vs)(k:κ)(I:RelV y u):
  KV (kvs.map λkv=>if kv.1=k then(kv.1,y) else kv) (vs.map λkv=>if kv.1=k then(kv.1,u) else kv):=by
 induction r with
 |nil=>exact .nil
 | @cons p q ps qs h t ih=>
  refine .cons ?_ ih;by_cases e:p.1=k
  .simp_all
  simp_all
def KV.put{kvs:List (κ×V)}{vs:List (κ×Value)}(r:KV kvs vs)(k:κ)(h:RelV y u):KV (putK kvs k y) (stored vs k u):=by
 unfold putK stored;rw[r.any k];by_cases e:(vs.any λkv=>decide<|kv.1=k)=true
 .rw[if_pos e,if_pos e];exact r.repl k h
 .rw[if_neg e,if_neg e];exact Paired.snoc r ⟨rfl,h⟩
def KV.keys{kvs:List (κ×V)}{vs:List (κ×Value)}(r:KV kvs vs):kvs.map (·.1)=vs.map (·.1):=by
 induction r with
 |nil=>rfl
 |cons h t ih=>simp_all
theorem KV.length{kvs:List (κ×V)}{vs:List (κ×Value)}(r:KV kvs vs):kvs.length=vs.length:=Paired.length r
end
def m6{k:Key}(r:RelV (kV k) u):(bD P w).is k u=true:=by
 cases k with
 |inl i=>obtain⟨t,e⟩:=(show ∃t,u=Value.int i t from r);subst e;exact pK P w i t
 |inr x=>obtain⟨t,e⟩:=(show ∃t,u=Value.str x t from r);subst e;exact pJ P w x t
theorem m7:∀{ks:List Key}{us:List Value},bq (ks.map kV) us->ItemsAre (bD P w) ks us
 |[],_,r=>by cases r;exact .nil
 |k::ks,_,r=>by
  cases r with
  |cons h t=>exact .cons (m6 h)<|m7 t
abbrev KT(H:Hp):List (List Key×V)->List (List Key×Addr×Value)->Prop:=Paired λp q=>p.1=q.1/\H q.2.1=some (.tup<|p.1.map kV)/\RelV p.2 q.2.2
def KT.val(r:KT H kvs xs)(k:List Key):iE (gt kvs k) ((atKey xs k).map (·.2)):=by
 induction r with
 |nil=>exact True.intro
 | @cons p q ps qs h t ih=>
  obtain⟨h1,_,I⟩:=h;by_cases e:p.1=k
  .have e':q.1=k:=h1.symm.trans e;have b:atKey (q::qs) k=some q.2:=by simp[atKey,e']
   rw[gq e,b];exact I
  .have e':¬q.1=k:=λz=>e<|h1.trans z;have b:atKey (q::qs) k=atKey qs k:=by simp[atKey,e']
   rw[d9 e,b];exact ih
def KT.repl(r:KT H kvs xs)(k:List Key)(I:RelV y u):
  KT H (kvs.map λkv=>if kv.1=k then(kv.1,y) else kv) (xs.map<|putAt k u):=by
 induction r with
 |nil=>exact .nil
 | @cons p q ps qs h t ih=>
  rw[map_cons,map_cons];refine .cons ?_ ih;obtain⟨h1,Y,J⟩:=h;unfold putAt;by_cases e:p.1=k
  .rw[if_pos e,if_pos<|h1.symm.trans e];trivial
  .rw[if_neg e,if_neg<|λz=>e<|h1.trans z];trivial
def KT.put(r:KT H kvs xs)(k:List Key){b:Addr}(I:H b=some (.tup<|k.map kV))(h:RelV y u):
  KT H (putK kvs k y) (storedH xs k b u):=by
 have e:(kvs.any λkv=>decide<|kv.1=k)=(atKey xs k).isSome:=by rw[kY,(r.val k).isSome_eq,isSome_map]
 unfold putK storedH;rw[e];by_cases q:(atKey xs k).isSome=true
 .rw[if_pos q,if_pos q];exact r.repl k h
 .rw[if_neg q,if_neg q];exact Paired.snoc r ⟨rfl,I,h⟩
def KT.keeps(r:KT H kvs xs)(h:∀b ys,H b=some (.tup ys)->H' b=some (.tup ys)):KT H' kvs xs:=
 Paired.mapP r λ_ _ z=>⟨z.1,h _ _ z.2.1,z.2.2⟩
section
variable{P:Program}{w:World}{H:Hp}{h:Heap}{a:Addr}
def Al{u:HO}(ok:iG P w H h)(e:Rd H a u):bL P w H h a u:=e.ok ok
def lU{kvs:List (Key×V)}(ok:iG P w H h)(e:Rd H a (.dK kvs)):kvs.length<=sizeLine/\(a==sysModules)=false/\∃vs,KV kvs vs/\h.DictOf (bD P w) a vs:=
 show bL P w H h a _ from Al ok e
def lV{kvs:List (Key×V)}(ok:iG P w H h)(e:H a=some (.dK kvs)):kvs.length<=sizeLine/\(a==sysModules)=false/\∃vs,KV kvs vs/\h.DictOf (bD P w) a vs:=lU ok<|.inl e
def oz{ks:List Key}(ok:iG P w H h)(e:H a=some (.tup<|ks.map kV)):(tupleKind<|bD P w).is h ks a:=by
 obtain⟨_,its,r,o,h1,J,n,I⟩:=(show bL P w H h a _ from ok a _ e);exact⟨o,its.toArray,n,h1,J.1,I,by simpa using m7 r⟩
def qe(ok:iG P w H h)(e:Rd H a (.dT kvs)):kvs.length<=sizeLine/\(a==sysModules)=false/\
  ∃xs,KT H kvs xs/\h.DictOfH (tupleKind<|bD P w) a xs:=by
 obtain⟨z,y,xs,r,o,es,ep,h1,h2,Z,Y,J⟩:=(show bL P w H h a (.dT kvs) from Al ok e);refine⟨z,y,xs,r,o,es,ep,h1,h2,Z,Y,λx I=>?_,J⟩
 have all:∀{l:List (List Key×V)}{m:List _},KT H l m->∀x∈m,(tupleKind<|bD P w).is h x.1 x.2.1:=by
  intro l m q
  induction q with
  |nil=>simp
  | @cons p q ps qs hq t ih=>
   intro x I;rcases mem_cons.mp I with e|I
   .subst e;exact oz ok (by simp_all)
   .exact ih x I
 exact all r x I
def EB(ok:iG P w H h)(e:H a=some (.dT kvs)):kvs.length<=sizeLine/\(a==sysModules)=false/\
  ∃xs,KT H kvs xs/\h.DictOfH (tupleKind<|bD P w) a xs:=qe ok<|.inl e
end
def mh(H:Hp)(a:Addr)(y:V)(r:Option V):Prop:=
 (∃kvs k,Rd H a (.dK kvs)/\y=kV k/\r=gt kvs k)\/∃kvs k b,Rd H a (.dT kvs)/\y=.ref b/\H b=some (.tup<|k.map kV)/\r=gt kvs k
def xZ(H:Hp)(a:Addr)(y v:V)(H':Hp):Prop:=
 (∃kvs k,H a=some (.dK kvs)/\y=kV k/\kvs.length<sizeLine/\H'=upd H a (.dK<|putK kvs k v))\/
 ∃kvs k b,H a=some (.dT kvs)/\y=.ref b/\H b=some (.tup<|k.map kV)/\kvs.length<sizeLine/\H'=upd H a (.dT<|putK kvs k v)
theorem mh.k{H:Hp}{a:Addr}{kvs:List (Key×V)}{k:Key}(e:H a=some (.dK kvs)):mh H a (kV k) (gt kvs k):= .inl ⟨kvs,k,.inl e,rfl,rfl⟩
theorem xZ.k{H:Hp}{a:Addr}{kvs:List (Key×V)}{k:Key}(e:H a=some (.dK kvs))(h:kvs.length<sizeLine):xZ H a (kV k) v (upd H a<|.dK<|putK kvs k v):= .inl ⟨kvs,k,e,rfl,h,rfl⟩
section
variable{X:Cx}{pins:List (Addr×Obj)}{W:St}{H:Hp}{s:Shared}{a:Addr}{y v:V}{u r:Value}{o:Option V}{A:Around}{E:Value->Shared->Prop}
def Inv.big(I:Inv X pins W H s):sysModules<s.heap.objs.size:=by
 have h:=(I.mod.glob.keeps I.bk).lt;exact lt_trans (by decide) h
def np(hu:A.units+1<cLine)(I:Inv X pins W H s)(g:mh H a y (some v))(ry:RelV y u)(h:∀Y s',Inv X pins W H s'->RelV v Y->Q Y s'):
  wpAny (model X.prog X.w) A (getItem (.ref a) u) Q E s:=by
 rcases g with⟨kvs,k,e,ey,l⟩|⟨kvs,k,b,e,ey,eb,l⟩
 .subst ey;obtain⟨z,hd,vs,rel,dd⟩:=lU I.hok e;obtain⟨Y,Z,J⟩:=iE.some_of (v:=v) (o:=valueAt vs k) (by rw[l];exact rel.val k)
  exact wpAny_getItem_of (m6 ry) dd.mapOf Z<|h Y _ (I.tok _) J
 .subst ey;cases(show u=Value.ref b from ry);obtain⟨z,hd,xs,rel,dd⟩:=qe I.hok e;obtain⟨Y,Z,J⟩:=iE.some_of (v:=v) (by rw[l];exact rel.val k)
  obtain⟨p,hp,hp2⟩:=Option.map_eq_some_iff.mp Z;refine wpAny_getItem_heap (tupleKind_room_in1 hu) (oz I.hok eb) dd hp ?_;rw[hp2];exact h Y _ (I.tok _) J
def zV(Z:A.units+1<cLine)(I:Inv X pins W H s)(g:mh H a y o)(Y:RelV y u)(h:∀s',Inv X pins W H s'->Q (.bool<|!o.isSome) s'):
  wpAny (model X.prog X.w) A (compareOp .NotIn u<|.ref a) Q E s:=by
 rcases g with⟨kvs,k,e,ey,l⟩|⟨kvs,k,b,e,ey,eb,l⟩
 .subst ey;obtain⟨z,hd,vs,rel,J⟩:=lU I.hok e;refine wpAny_notIn_of (m6 Y) hd J.mapOf ?_;rw[<-(rel.val k).isSome_eq,<-l];exact h _<|I.tok _
 .subst ey;cases(show u=Value.ref b from Y);obtain⟨z,hd,xs,rel,J⟩:=qe I.hok e;refine wpAny_notIn_heap (tupleKind_room_in1 Z) (oz I.hok eb) hd J ?_;have q:=(rel.val k).isSome_eq;rw[isSome_map] at q;rw[<-q,<-l];exact h _<|I.tok _
def kH{t':Nat}{h:HO}(I:Inv X pins W H s)(J:ET (H a))(Y:Heap.SameBut a s.heap h')(Z:∃q,h'.get? a=some q)(new:bL X.prog X.w (upd H a h) h' a h):
  Inv X pins W (upd H a h) {s with heap:=h',toks:=t'}:=
 I.write J (.inl rfl) (λb q hb z=>(Y.2 b hb).trans z) Z new
def lW{h':Heap}{kvs:List (Key×V)}(z:kvs.length<=sizeLine)(hd:(a==sysModules)=false)(rel:KV kvs vs)(h:h'.DictOf (bD P w) a vs):
  bL P w H' h' a (.dK kvs):=⟨z,hd,vs,rel,h⟩
def uS{Q:Unit->Shared->Prop}(hu:A.units+1<cLine)(I:Inv X pins W H s)(g:xZ H a y v H')(ry:RelV y u)(rv:RelV v r)(h:∀s',Inv X pins W H' s'->Q () s'):
  wpAny (model X.prog X.w) A (setItem (.ref a) u r) Q E s:=by
 rcases g with⟨kvs,k,e,ey,l,eH⟩|⟨kvs,k,b,e,ey,eb,l,eH⟩
 .subst ey eH;obtain⟨z,hd,vs,rel,dd⟩:=lV I.hok e;have Z:vs.length<=sizeLine:=by rw[<-rel.length];exact z
  have hl:(putK kvs k v).length<=sizeLine:=by have:=eK kvs k v;lia
  refine wpAny_setItem_pairs (hsz:=Z) (m6 ry) dd λh' J hs=>h _ ?_;have he:∃q,h'.get? a=some q:=let⟨q,_,_,Y,_⟩:=J;⟨q,Y⟩;exact kH I (by rw[e];exact True.intro) hs he<|lW hl hd (rel.put k rv) J
 .subst ey eH;cases(show u=Value.ref b from ry);obtain⟨z,hd,xs,rel,dd⟩:=EB I.hok e;have Z:xs.length<=sizeLine:=by rw[<-Paired.length rel];exact z
  have hl:(putK kvs k v).length<=sizeLine:=by have:=eK kvs k v;lia
  refine wpAny_setItem_heap (hsz:=Z) (tupleKind_room_in1 hu) (oz I.hok eb) dd λh' J hs=>h _ ?_;obtain⟨q,es,ep,Y,h2,h3,h4,_,h5⟩:=J;refine kH I (by rw[e];exact True.intro) hs ⟨q,Y⟩ ⟨hl,hd,_,(rel.put k eb rv).keeps λc ys ec=>?_,q,es,ep,Y,h2,h3,h4,h5⟩
  rw[aq<|cg ec e (λz=>nomatch z)];exact ec
end
section
variable{X:Cx}{pins:List (Addr×Obj)}{W:St}{H:Hp}{s:Shared}{a:Addr}{kvs:List (Key×V)}{A:Around}{E:Value->Shared->Prop}
def zW(I:Inv X pins W H s)(e:H a=some (.dK kvs))(h:∀s',Inv X pins W (upd H a<|.dK []) s'->Q .none s'):wpAny (model X.prog X.w) A (call (.builtin "dict.clear") [.ref a]) Q E s:=by
 obtain⟨z,hd,vs,rel,Y⟩:=lV I.hok e;refine call_meetsIn PySem.F.slot_dict_clear Y.typeIs PySem.F.entry_dict_clear (PySem.F.args_dict_clear_1 _) (meets_dict_clear _ a) ⟨vs,Y,by rw[<-rel.length];exact z,λh' J Z=>h _ ?_⟩
 have he:∃q,h'.get? a=some q:=let⟨q,_,_,hq,_⟩:=J;⟨q,hq⟩;exact kH I (by rw[e];trivial) Z he<|lW (zero_le _) hd .nil J
def ED(I:Inv X pins W H s)(e:Rd H a (.dK kvs))(h:∀t s',Inv X pins W H s'->Q (.int kvs.length t) s'):wpAny (model X.prog X.w) A (call (.builtin "len") [.ref a]) Q E s:=by
 obtain⟨z,hd,vs,rel,J⟩:=lU I.hok e;refine call_len_dict hd J (by rw[<-rel.length];rw[sizeLine_eq] at z;lia) ?_
 rw[<-rel.length];exact h _ _<|I.tok _
end
def jW{W:St}{o:Option V}(I:Inv X pins W H s)(g:mh H a y o):s.TypeIs (.ref a) "dict":=by
 rcases g with⟨kvs,k,e,_,_⟩|⟨kvs,k,b,e,_,_,_⟩
 .obtain⟨_,_,vs,_,h⟩:=lU I.hok e;exact h.typeIs
 .obtain⟨_,_,xs,_,h⟩:=qe I.hok e;exact h.typeIs
def DD(td ty tv:TE):TS:=λD W H=>tv W H λv H1=>td W H1 λx H2=>ty W H2 λy H3=>∃a H4,x=.ref a/\xZ H3 a y v H4/\D.nx W H4
section
variable{X:Cx}{o i value:Expr}{pos pos':Pos}{td ty tv:TE}
def yX(hu:X.A.units+1<cLine)(ho:PE X o td)(hi:PE X i ty)(Z:PE X value tv)(hs:swapsWith value (some<|.Subscript o i pos') pos.line X.env=pure false):
  PS X (.Assign [.Subscript o i pos'] value pos) (DD td ty tv):=by
 intro pins s W H D I h;refine wpAny_Assign_Subscript (bR (Z pins s W H _ I h) λr Y ⟨v,H1,I1,rv,q1⟩=>bR (ho pins Y W H1 _ I1 q1) λu J ⟨x,H2,I2,rx,q2⟩=>bR (hi pins J W H2 _ I2 q2) λiv s3 ⟨y,H3,I3,ry,a,H4,ex,g,q3⟩=>?_) hs;subst ex;obtain rfl:u=Value.ref a:=rx;exact uS hu I3 g ry rv λs4 I4=>⟨W,H4,I4,q3⟩
end
def xC(h:Heap)(I:sysModules<h.objs.size):bL P w H (h.push {cls:= .type "dict",data:= .dict #[]}) h.objs.size (.dK []):=
 ⟨zero_le _,beq_eq_false_iff_ne.mpr<|Ne.symm<|al I,[],.nil,Heap.DictOf.new h⟩
section
end
def nT:List (TE×TE)->St->Hp->(List (V×V)->Hp->Prop)->Prop
 |[],_,H,Q=>Q [] H
 |(tk,tv)::r,W,H,Q=>tk W H λx H1=>tv W H1 λy H2=>nT r W H2 λps H3=>Q ((x,y)::ps) H3
abbrev VV:List (V×V)->List (Value×Value)->Prop:=Paired λp q=>RelV p.1 q.1/\RelV p.2 q.2
def ES(X:Cx)(pos:Pos)(keys:List (Option Expr))(values:List Expr)(trs:List (TE×TE)):Prop:=
 ∀(pins:List (Addr×Obj))(s:Shared)(W:St)(H:Hp)(Q:List (V×V)->Hp->Prop),Inv X pins W H s->nT trs W H Q->
  wpAny (model X.prog X.w) X.A (evalPairs<|pairTrees keys values X.env pos) (λvs s'=>∃ps H',Inv X pins W H' s'/\VV ps vs/\Q ps H') X.xe s
def sL:ES X pos [] [] []:=λpins s W H Q I h=>pairTrees_nil_walk ⟨[],H,I,.nil,h⟩
def lu{k v:Expr}{ks:List (Option Expr)}{tk tv:TE}{J:List (TE×TE)}(hk:PE X k tk)(hv:PE X v tv)(hr:ES X pos ks vs J):
  ES X pos (some k::ks) (v::vs) ((tk,tv)::J):=λpins s W H Q I h=>
 pairTrees_cons_walk (bR (hk pins s W H _ I h) λu Z ⟨x,H1,I1,rx,q1⟩=>bR (hv pins Z W H1 _ I1 q1) λw2 Y ⟨y,H2,I2,ry,q2⟩=>
  bR (hr pins Y W H2 _ I2 q2) λws s3 ⟨ps,H3,I3,rel,q3⟩=>⟨(x,y)::ps,H3,I3,.cons ⟨rx,ry⟩ rel,q3⟩)
def gx(kvs more:List (Key×V)):List (Key×V):=more.foldl (λacc kv=>putK acc kv.1 kv.2) kvs
def KV.merge:∀{more:List (Key×V)}{rs:List (Key×Value)}{kvs:List (Key×V)}{vs:List (Key×Value)},KV more rs->KV kvs vs->KV (gx kvs more) (merged vs rs):=by
 intro more rs kvs vs r
 induction r generalizing kvs vs with
 |nil=>intro q;exact q
 | @cons p q ps qs h t ih=>
  intro I
  have e:KV (putK kvs p.1 p.2) (stored vs q.1 q.2):=by
   have:=I.put p.1 h.2
   simp_all
  exact ih e
theorem ik:∀(more kvs:List (Key×V)),(gx kvs more).length<=kvs.length+more.length
 |[],kvs=>by show kvs.length<=kvs.length+0;lia
 |p::r,kvs=>by have h1:=ik r<|putK kvs p.1 p.2;have h:=eK kvs p.1 p.2;show(gx (putK kvs p.1 p.2) r).length<=_;rw[length_cons];lia
theorem l6:∀{kvs:List (Key×V)}{I:List (Value×Value)},VV (kvs.map λkv=>(kV kv.1,kv.2)) I->∃rs,Carries (bD P w) I rs/\KV kvs rs
 |[],_,r=>by cases r;exact⟨[],True.intro,.nil⟩
 |p::kvs,_,r=>by
  cases r with
  | @cons a b as bs h t=>obtain⟨rs,c,q⟩:=l6 (P:=P) (w:=w) t;obtain⟨J,b2⟩:=b;exact⟨(p.1,b2)::rs,⟨m6 h.1,rfl,c⟩,.cons ⟨rfl,h.2⟩ q⟩
def Dp(trs:List (TE×TE)):TE:=λW H Q=>∀p,H p=none->nT trs W (upd H p<|.dK []) λps H2=>H2 p=some (.dK [])/\∃kvs:List (Key×V),ps=kvs.map (λkv=>(kV kv.1,kv.2))/\kvs.length<=15/\Q (.ref p) (upd H2 p<|.dK<|gx [] kvs)
def sP{keys:List (Option Expr)}{J:List (TE×TE)}(h:ES X pos keys values J)(Y:keys.all (·.isSome)=true)(hl:keys.length=values.length)(h0:keys≠[])
  (h15:keys.length<=15):PE X (.Dict keys values pos) (Dp J):=by
 intro pins s W H Q I q;have hn:=I.hok.fresh<|af s.heap.objs.size;have I1:=I.laid (o:= .dK []) (t':=s.toks) (λ_ _ q=>ac _ q) (af _)<|xC s.heap I.big;refine wpAny_Dict_walk (knd:=bD X.prog X.w) Y hl h0 h15<|bR (h pins _ W _ _ I1<|q _ hn) λws s2 hp=>?_;obtain⟨ps,H2,I2,rel,e,kvs,ep,lk,q2⟩:=hp;subst ep;obtain⟨rs,c,rk⟩:=l6 (P:=X.prog) (w:=X.w) rel;obtain⟨z,hd,vs0,r0,dd⟩:=lV I2.hok e;cases r0;refine⟨rs,c,dd,λh' Z hs=>⟨.ref s.heap.objs.size,_,?_,rfl,q2⟩⟩
 have hz:(gx [] kvs).length<=sizeLine:=by have h1:=ik kvs [];rw[length_nil] at h1;rw[sizeLine_eq];lia
 have he:∃q,h'.get? s.heap.objs.size=some q:=let⟨q,_,_,hq,_⟩:=Z;⟨q,hq⟩;exact kH I2 (by rw[e];exact True.intro) hs he<|lW hz hd (rk.merge .nil) Z
def GZ(H:Hp)(a:Addr):Prop:=(∃kvs,Rd H a<|.dK kvs)\/∃kvs,Rd H a (.dT kvs)
def iw{W:St}(I:Inv X pins W H s)(d:GZ H a):
  s.TypeIs (.ref a) "dict" /\(∀b,Value.ref a=.ref b->∃h,s.heap.get? b=some h/\h.dict=none)/\(a==sysModules)=false:=by
 rcases d with⟨kvs,e⟩|⟨kvs,e⟩
 .obtain⟨_,hd,vs,_,J⟩:=lU I.hok e;refine⟨J.typeIs,λb q=>?_,hd⟩;cases q;obtain⟨h,_,_,h1,Y,_⟩:=J;exact⟨h,h1,Y.2.1⟩
 .obtain⟨_,hd,xs,_,J⟩:=qe I.hok e;refine⟨J.typeIs,λb q=>?_,hd⟩;cases q;obtain⟨h,_,_,h1,Y,_⟩:=J;exact⟨h,h1,Y.2.1⟩
section
end
section
end
section
variable{X:Cx}{pins:List (Addr×Obj)}{W:St}{H:Hp}{s:Shared}{a:Addr}{kvs:List (Key×V)}{A:Around}{E:Value->Shared->Prop}
def xG(I:Inv X pins W H s)(e:Rd H a (.dK kvs))(h:∀p s',H p=none->Inv X pins W (upd H p<|.dK kvs) s'->Q (.ref p) s'):wpAny (model X.prog X.w) A (call (.type "dict") [.ref a]) Q E s:=by
 obtain⟨z,hd,vs,rel,dd⟩:=lU I.hok e;refine kt_call_dict hd dd (by rw[<-rel.length];exact z) λh' J Z=>?_
 refine h _ _ (I.hok.fresh<|af _)<|I.laid (λb q Y=>?_) (af _)<|lW z (beq_eq_false_iff_ne.mpr<|Ne.symm<|al I.big) rel J;exact(Z.2 b<|al<|ai Y).trans<|ac _ Y
end
section
end
end L2
namespace PySem.SeqAt
open MeetsSeq
variable{b l:Addr}
def xW(h:Heap)(d:Addr):Prop:=∃es ep,h.get? d=some {cls:= .type "dict",dict:=none,data:= .dict es ep,slots:= #[]}
def gl(l b:Addr)(es:Array DictEntry)(ep:Nat)(items:Array Value)(n:Nat)(Y:Option Addr)(sl:Array (Option Value)):
  Meets (Builtin.«dict.__eq__» ⟨[.ref l,.ref b],[]⟩) (λ_ R s=>s.heap.get? l=some {cls:= .type "dict",dict:=none,data:= .dict es ep,slots:= #[]}/\s.heap.get? b=some {cls:= .type "list",dict:=Y,data:= .seq items n,slots:=sl}/\R (.ok<|.ret .notImplemented) s):=
 .of_wp λprog w A R s h=>by obtain⟨I,J,h⟩:=h;have Z:=F.sub_list_dict;wp_walk using wpAny_loadPart' I,wpAny_loadPart' J;exact⟨_,rfl,h⟩
def gh(b l:Addr)(es:Array DictEntry)(ep:Nat)(items:Array Value)(n:Nat)(Y:Option Addr)(sl:Array (Option Value)):
  Meets (Builtin.«list.__eq__» ⟨[.ref b,.ref l],[]⟩) (λ_ R s=>s.heap.get? b=some {cls:= .type "list",dict:=Y,data:= .seq items n,slots:=sl}/\s.heap.get? l=some {cls:= .type "dict",dict:=none,data:= .dict es ep,slots:= #[]}/\R (.ok<|.ret .notImplemented) s):=
 .of_wp λprog w A R s h=>by obtain⟨J,I,h⟩:=h;have Z:=F.sub_dict_list;wp_walk using wpAny_loadPart' I,wpAny_loadPart' J;exact⟨_,rfl,h⟩
def gk(l b:Addr)(es:Array DictEntry)(ep:Nat)(items:Array Value)(n:Nat)(Y:Option Addr)(sl:Array (Option Value)):
  Meets (Builtin.«dict.__ne__» ⟨[.ref l,.ref b],[]⟩) (λ_ R s=>s.heap.get? l=some {cls:= .type "dict",dict:=none,data:= .dict es ep,slots:= #[]}/\s.heap.get? b=some {cls:= .type "list",dict:=Y,data:= .seq items n,slots:=sl}/\R (.ok<|.ret .notImplemented) s):=
 .of_wp λprog w A R s h=>by obtain⟨I,J,h⟩:=h;have Z:=F.sub_list_dict;wp_walk using wpAny_loadPart' I,wpAny_loadPart' J;exact⟨_,rfl,h⟩
def f_(b l:Addr)(es:Array DictEntry)(ep:Nat)(items:Array Value)(n:Nat)(Y:Option Addr)(sl:Array (Option Value)):
  Meets (Builtin.«list.__ne__» ⟨[.ref b,.ref l],[]⟩) (λ_ R s=>s.heap.get? b=some {cls:= .type "list",dict:=Y,data:= .seq items n,slots:=sl}/\s.heap.get? l=some {cls:= .type "dict",dict:=none,data:= .dict es ep,slots:= #[]}/\R (.ok<|.ret .notImplemented) s):=
 .of_wp λprog w A R s h=>by obtain⟨J,I,h⟩:=h;have Z:=F.sub_dict_list;wp_walk using wpAny_loadPart' I,wpAny_loadPart' J;exact⟨_,rfl,h⟩
section
variable{A:Around}{s:Shared}
def RcAt.dict_list{items:Array Value}(hl:xW s.heap l)(hb:s.heap.IsList b items)(hu:A.units<cLine):RcAt A s (.ref l) (.ref b) false:=λprog w E Q h=>by
 obtain⟨es,ep,ho⟩:=hl;obtain⟨⟨cls,Z,data,sl⟩,I,hc,n,hd⟩:=id hb;subst hc hd;have Y:l≠b:=λe=>by simp_all
 exact rc_eq_decline_or ⟨_,ho,rfl⟩ ⟨_,I,rfl⟩ (rfl) F.sub_list_dict F.slot_dict_eq F.slot_list_eq_refl
  (λ_ J=>call_meets F.slot_dict_eq ⟨_,ho,rfl⟩ F.entry_dict_eq (F.args_dict_eq_2 _ _) (gl l b es ep items n Z sl) ⟨ho,I,J⟩)
  (λ_ J=>call_meets F.slot_list_eq_refl ⟨_,I,rfl⟩ F.entry_list_eq (F.args_list_eq_2 _ _) (gh b l es ep items n Z sl) ⟨I,ho,J⟩)
  (λ_ J=>wpAny_isSame_ref_other Y ho I (by simp) J) (.inr hu) h
def RcNeAt.dict_list{items:Array Value}(hl:xW s.heap l)(hb:s.heap.IsList b items)(hu:A.units<cLine):RcNeAt A s (.ref l) (.ref b) true:=λprog w E Q h=>by
 obtain⟨es,ep,ho⟩:=hl;obtain⟨⟨cls,Z,data,sl⟩,I,hc,n,hd⟩:=id hb;subst hc hd;have Y:l≠b:=λe=>by simp_all
 exact rc_ne_decline_or ⟨_,ho,rfl⟩ ⟨_,I,rfl⟩ (rfl) F.sub_list_dict F.slot_dict_ne F.slot_list_ne_refl
  (λ_ J=>call_meets F.slot_dict_ne ⟨_,ho,rfl⟩ F.entry_dict_ne (F.args_dict_ne_2 _ _) (gk l b es ep items n Z sl) ⟨ho,I,J⟩)
  (λ_ J=>call_meets F.slot_list_ne_refl ⟨_,I,rfl⟩ F.entry_list_ne (F.args_list_ne_2 _ _) (f_ b l es ep items n Z sl) ⟨I,ho,J⟩)
  (λ_ J=>wpAny_isSame_ref_other Y ho I (by simp) J) (.inr hu) h
end
end PySem.SeqAt
namespace L2
variable{scope:Scope}{x y:Str}{pos ppos px spos:Pos}{ifs:List Expr}{elt iter tg:Expr}{s s':Shared}{X:Cx}{H H':Hp}{W W':St}{pins:List (Addr×Obj)}{fp:List Addr}{h':Heap}{use:Option (Value->Sem Unit)}{te:TE}{tc:TT}{wi:TI}{zs:List Str}
noncomputable def jL(cells:List (Str×Addr)):List (Str×NameKind)->List (Str×Addr)->List (Str×Addr)
 |[],cs=>cs
 |(n,k)::r,cs=>if k== .free then jL cells r ((n,(cells.lookup n).getD 0)::cs) else jL cells r cs
theorem jd{env:Env}:∀(names:List (Str×NameKind))(cs:List (Str×Addr)),(∀x∈names,x.2=.free->∃c,env.cells.lookup x.1=some c)->
  (forIn names cs λ(x:Str×NameKind)(r:List (Str×Addr))=>(do
   if x.2==NameKind.free then
    let a <-cellOf env x.1
    pure (ForInStep.yield<|(x.1,a)::r)
   else pure (ForInStep.yield r):Sem (ForInStep<|List<|Str×Addr)))=(pure (jL env.cells names cs):Sem (List<|Str×Addr))
 |[],cs,_=>rfl
 |(n,k)::r,cs,h=>by
  have J:=λcs=>jd (env:=env) r cs λx Y=>h x<|mem_cons_of_mem _ Y;rw[forIn_cons];cases hk:(k==NameKind.free) with
  |true=>
   obtain⟨c,Z⟩:=h (n,k) mem_cons_self (by simpa using hk)
   have I:=Z;simp only[jL,hk,if_true,cellOf,I,pure_bind];exact J _
  |false=>simp only[jL,hk,if_false,pure_bind];exact J _
def f8{env:Env}(h:∀x∈scope.names,x.2=.free->∃c,env.cells.lookup x.1=some c):closureFor scope env=pure (jL env.cells scope.names []):=by rw[<-jd scope.names [] h];unfold closureFor;simp only[bind_pure]
theorem oR{cells:List (Str×Addr)}{y:Str}{c:Addr}:∀{names:List (Str×NameKind)}{cs:List (Str×Addr)},(jL cells names cs).lookup y=some c->((y,NameKind.free)∈names/\c=(cells.lookup y).getD 0)\/cs.lookup y=some c
 |[],cs,h=>.inr h
 |(n,k)::r,cs,h=>by
  unfold jL at h;cases hk:(k==NameKind.free) with
  |true=>
   have I:k=.free:=by simpa using hk
   subst I;rcases oR h with⟨a,b⟩|q
   .exact .inl ⟨mem_cons_of_mem _ a,b⟩
   .cases hy:y==n with
    |true=>
     simp_all
    |false=>rw[lookup_cons,hy] at q;exact .inr q
  |false=>
   rw[hk] at h;rcases oR (by simpa using h) with⟨a,b⟩|q
   .exact .inl ⟨mem_cons_of_mem _ a,b⟩
   .exact .inr q
theorem g_{cells:List (Str×Addr)}{y:Str}:∀{names:List (Str×NameKind)}{cs:List (Str×Addr)},(∀c,cs.lookup y=some c->c=(cells.lookup y).getD 0)->((y,NameKind.free)∈names\/cs.lookup y=some ((cells.lookup y).getD 0))->
  (jL cells names cs).lookup y=some ((cells.lookup y).getD 0)
 |[],cs,_,h=>by
  rcases h with h|h
  .simp at h
  .exact h
 |(n,k)::r,cs,hc,h=>by
  unfold jL;cases hk:(k==NameKind.free) with
  |true=>
   have I:k=.free:=by simpa using hk
   subst I;rw[if_pos (by rfl)]
   cases hy:y==n with
   |true=>
    have:y=n:=by simpa using hy
    subst this;refine g_ (λc e=>?_)<|.inr ?_
    .rw[lookup_cons,hy] at e;exact(ak e).symm
    .rw[lookup_cons,hy]
   |false=>
    refine g_ (λc e=>?_) ?_
    .rw[lookup_cons,hy] at e;exact hc c e
    .rcases h with h|h
     .simp_all
     .right;rw[lookup_cons,hy];exact h
  |false=>
   have h':(y,NameKind.free)∈r\/List.lookup y cs=some ((List.lookup y cells).getD 0):=by
    rcases h with h|h
    .rcases mem_cons.mp h with e|e
     .injection e with _ e2;rw[<-e2] at hk;simp at hk
     .exact .inl e
    .exact .inr h
   have q:=g_ (names:=r) (cs:=cs) hc h';simpa using q
def bX{env:Env}{names:List (Str×NameKind)}{k:NameKind}:(names.map λ(n,k)=>if(k==NameKind.free&&env.scope.kind== .function&&env.kindOf n==some .cell) then(n,NameKind.cell) else(n,k)).lookup x=some k->
  names.lookup x=some k\/(k=.cell/\names.lookup x=some .free):=by
 induction names with
 |nil=>intro h;simp at h
 |cons p r ih=>
  obtain⟨n,I⟩:=p;intro h;have h:List.lookup x ((if(I==NameKind.free&&env.scope.kind== .function&&env.kindOf n==some .cell)=true then(n,NameKind.cell) else(n,I))::_)=some k:=h
  cases hx:x==n with
  |true=>
   by_cases hc:(I==NameKind.free&&env.scope.kind== .function&&env.kindOf n==some .cell)=true
   .simp_all
   simp_all
  |false=>
   have h':List.lookup x (r.map λ(n,k)=>if(k==NameKind.free&&env.scope.kind== .function&&env.kindOf n==some .cell) then(n,NameKind.cell) else(n,k))=some k:=by
    by_cases hc:(I==NameKind.free&&env.scope.kind== .function&&env.kindOf n==some .cell)=true
    .rw[if_pos hc] at h;simpa only[lookup_cons,hx] using h
    .rw[if_neg hc] at h;simpa only[lookup_cons,hx] using h
   simp only[lookup_cons,hx];exact ih h'
theorem jY{R:Result->Shared->Prop}{env:Env}(I:Nat->Shared->Prop)
  (turn:∀n s,I n s->wpAny (model prog w) A (pyNext it) (λr s₁=>match r with
   |none=>R (.ok .next) s₁
   |some v=>wpAny (model prog w) A (letOwnedTupleGo target it v) (λ_ s₁'=>wpAny (model prog w) A (assign target env v) (λ_ s₂=>
     wpAny (model prog w) A (forIn ifs true λc r=>if r=true then do let ok <-isTrue c env (eval c env);pure (ForInStep.yield ok) else pure<|ForInStep.yield r) (λok s₃=>
      if ok=true then wpAny (model prog w) A (eval elt env) (λx s₄=>
       wpAny (model prog w) A (call (.builtin "list.append") [acc,x]) (λ_ s₅=>∃m,m<n/\I m s₅) (notedBy (model prog w) A env λe s'=>R (.error e) s') s₄) (notedBy (model prog w) A env λe s'=>R (.error e) s') s₃
      else ∃m,m<n/\I m s₃) (notedBy (model prog w) A env λe s'=>R (.error e) s') s₂) (notedBy (model prog w) A env λe s'=>R (.error e) s') s₁') (notedBy (model prog w) A env λe s'=>R (.error e) s') s₁) (notedBy (model prog w) A env λe s'=>R (.error e) s') s)
  (n:Nat)(h:I n s):
  codeAny (model prog w) A (.compLoop (.ListComp elt [⟨target,iter,ifs,0⟩] scope pos) 0 it acc env) R s:=by
 refine codeAny_loop rfl I (λn s J=>?_) n h;refine wpAny_noted ?_;rw[compTurn_list];refine aa<|wpAny_standAt<|aa<|aO (turn n s J) (λr s₁ h₁=>?_) λ_ _ h'=>h';cases r with
 |none=>exact ae h₁
 |some v=>
  refine aa<|aO h₁ (λ_ s₁' h₁'=>?_) λ_ _ h'=>h';refine aa<|aO h₁' (λ_ s₂ h₂=>aa<|aO h₂ (λok s₃ h₃=>?_) λ_ _ h'=>h') λ_ _ h'=>h';cases ok with
  |false=>exact ae ⟨rfl,h₃⟩
  |true=>exact aa<|aa<|aO h₃ (λx s₄ h₄=>aa<|aO h₄ (λ_ s₅ h₅=>ae<|ae ⟨rfl,h₅⟩) λ_ _ h'=>h') λ_ _ h'=>h'
noncomputable def Ay(z:Str):Str:=⟨#[46]++z.cps⟩
def eJ(scope:Scope)(N:List Str):List Str:=N.map λz=>if scope.names.lookup z=some .local then Ay z else z
def bI(X:Cx)(x:Str)(scope:Scope)(fp:List Addr)(s:Shared)(H:Hp):Cx where
 prog:=X.prog
 w:=X.w
 K:=X.K
 mg:=X.mg
 base:=X.base
 A:=X.A
 N:=x::eJ scope X.N
 s₀:=s
 H₀:=H
 env:=compEnvC scope (jL X.env.cells scope.names []) s.heap.objs.size X.env
 outer:=X.stack
 stack:=X.stack
 ex:=fp
 calm:=X.calm
 fn:=λ_=>false
 pn:=X.pn
 xe:=λ_ _=>False
structure CompScope(X:Cx)(x:Str)(scope:Scope):Prop where
 kind:scope.kind=.function
 nocell:∀y∈scope.names,y.2≠ .cell
 locs:∀y∈scope.names,y.2=.local->scope.names.lookup y.1=some .local
 own:scope.names.lookup x=some .local
 frees:∀y∈scope.names,y.2=.free->X.env.kindOf y.1=some .cell\/X.env.kindOf y.1=some .free
 apart:∀z∈X.N,scope.names.lookup z=some .local->scope.names.lookup (Ay z)=none
theorem CompScope.cells(C:CompScope X x scope)(ok:X.Ok):∀y∈scope.names,y.2=.free->∃c,X.env.cells.lookup y.1=some c:=λy h I=>ok.has y.1<|C.frees y h I
def CompScope.cell_of{c:Addr}(C:CompScope X x scope)(ok:X.Ok)(h:(jL X.env.cells scope.names []).lookup y=some c):(y,NameKind.free)∈scope.names/\X.env.cells.lookup y=some c:=by
 rcases oR h with⟨a,b⟩|q
 .obtain⟨c',e⟩:=C.cells ok _ a rfl
  simp_all
 .simp at q
def fW(I:Inv X pins W H s)(C:CompScope X x scope)(hf:∀b∈fp,fq X pins H b)(ho:∀b∈fp,∃o,s.heap.get? b=some o):
  (bI X x scope fp s H).Ok where
 mod:=I.ok.mod
 kind:=C.kind
 glob:=I.ok.glob
 blt:=I.ok.blt
 above:=af _
 inj:=λy z c h1 h2=>I.ok.inj y z c (C.cell_of I.ok h1).2 (C.cell_of I.ok h2).2
 has:=λy Y=>by
  have Z:scope.names.lookup y=some .free:=by
   rcases Y with Y|Y
   .rcases bX Y with q|⟨_,q⟩
    .exact absurd rfl<|C.nocell _<|aL q
    .exact q
   .rcases bX Y with q|⟨z,_⟩
    .exact q
    .cases z
  exact⟨_,g_ (λc e=>by simp at e)<|.inl<|aL Z⟩
 cab:=λy c h _=>nomatch h
 hd:=I.ok.hd
 frames:=I.ok.frames
 stk:= .inl rfl
 exf:=λb J=>by obtain⟨o,e⟩:=ho b J;obtain⟨f0,f1,f2,f3,f4,f5⟩:=hf b J;exact⟨al<|ai e,λy c h=>f4 y c (C.cell_of I.ok h).2⟩
 bs:=I.bs
 bsz:=ao I.ok.bsz I.sz
 noex:=λb o e J=>by
  obtain⟨f0,f1,f2,f3,f4,f5⟩:=hf b J;rcases f3 with z|z
  .exact I.ok.noex b o e z
  .exact absurd (av (ai (I.ok.bs b o e).1) z)<|bj _
 exfs:=λb J hs=>by
  obtain⟨f0,f1,f2,f3,f4,f5⟩:=hf b J;rcases mem_cons.mp (I.stkSub b hs) with z|z
  .exact f1 z
  .exact f2 z
 funs:=I.stack
 frf:=I.stkFree
def qh{tk:Nat}{m:Str->Option Value}(I:Inv X pins W H s)(C:CompScope X x scope)(hf:∀b∈fp,fq X pins H b)(ho:∀b∈fp,∃o,s.heap.get? b=some o)
  (hn:h'.Ns s.heap.objs.size m)(k:∀b o,s.heap.get? b=some o->h'.get? b=some o):Inv (bI X x scope fp s H) pins (none::W) H {s with heap:=h',toks:=tk}:=by
 refine⟨fW I C hf ho,rfl,I.bare,Un.kept k,⟨m,hn,λi y v h1 h2 h3=>?_⟩,λy c h=>?_,I.hok.fresh<|af _,λy c h=>I.freeC y c (C.cell_of I.ok h).2,λp hp=>?_,I.hok.kept k,?_⟩
 .cases i with
  |zero=>simp at h2
  |succ i=>
   have h1:(eJ scope X.N)[i]? =some y:=by simpa[bI] using h1
   unfold eJ at h1;rw[az] at h1;obtain⟨Z,h1',Y⟩:=Option.map_eq_some_iff.mp h1;have h2:W[i]? =some (some v):=by simpa using h2
   have hsome:∃kd,scope.names.lookup y=some kd:=by rcases h3 with q|q|q<;>rcases bX q with q|⟨_,q⟩<;>exact⟨_,q⟩
   have nl:¬scope.names.lookup Z=some .local:=λhl=>by rw[if_pos hl] at Y;obtain⟨kd,q⟩:=hsome;rw[<-Y,C.apart Z (ah h1') hl] at q;cases q
   rw[if_neg nl] at Y;subst Y
   have hfr:scope.names.lookup Z=some .free:=by
    rcases h3 with q|q|q
    .rcases bX q with q|⟨z,_⟩
     .exact absurd q nl
     .cases z
    .rcases bX q with q|⟨_,q⟩
     .exact absurd rfl<|C.nocell _<|aL q
     .exact q
    .rcases bX q with q|⟨z,_⟩
     .exact q
     .cases z
   have J:=aL hfr;obtain⟨m0,hn0,hl0⟩:=I.loc
   have hvis:xT X.env.scope Z:=by
    rcases C.frees _ J rfl with q|q
    .exact .inr<|.inl q
    .exact .inr<|.inr q
   obtain⟨u,r,l⟩:=hl0 i Z v h1' h2 hvis;refine⟨u,r,.inr ⟨?_,?_⟩⟩
   .rcases h3 with q|q|q
    .rcases bX q with q|⟨z,_⟩
     .rw[hfr] at q;cases q
     .cases z
    .exact .inl q
    .exact .inr q
   .rcases l with⟨lk,_⟩|⟨_,c,hc,hcell⟩
    .rcases C.frees _ J rfl with q|q
     .rw[lk] at q;cases q
     .rw[lk] at q;cases q
    .refine⟨c,?_,?_⟩
     .show(jL X.env.cells scope.names []).lookup Z=some c;have q:=g_ (cells:=X.env.cells) (y:=Z) (names:=scope.names) (cs:=[]) (λc e=>by simp at e) (.inl J)
      rw[hc,Option.getD_some] at q;exact q
     .obtain⟨o,e,d⟩:=hcell;exact⟨o,k _ _ e,d⟩
 .obtain⟨v,o,e,d⟩:=I.cell y c (C.cell_of I.ok h).2;exact⟨v,o,k _ _ e,d⟩
 .obtain⟨e,n,ne,nf,d⟩:=I.pin p hp;refine⟨k _ _ e,n,al<|ai e,λz=>?_,d⟩;rcases mem_cons.mp (I.stkSub _ z) with q|q
  .exact ne q
  .exact nf q
 .show(none::W).length=(x::eJ scope X.N).length;rw[length_cons,length_cons,I.len,eJ,length_map]
def yu:TT:=λ_ H Q=>Q true H
def yb(X:Cx)(ifs:List Expr)(t:TT):Prop:=
 ∀(pins:List (Addr×Obj))(s:Shared)(W:St)(H:Hp)(Q:Bool->Hp->Prop),Inv X pins W H s->t W H Q->
  wpAny (model X.prog X.w) X.A (forIn ifs true λc r=>if r=true then do let ok <-isTrue c X.env (eval c X.env);pure (ForInStep.yield ok) else pure<|ForInStep.yield r) (TP X pins W Q) X.xe s
def iQ:yb X [] yu:=λ_ _ _ H _ I h=>wpAny_tests_nil ⟨H,I,h⟩
def sH{t:TT}(h:PT X c t):yb X [c] t:=λpins s W H Q I q=>wpAny_tests_one<|h pins s W H Q I q
def pq(wi:TI)(tc:TT)(te:TE):TE:=λW H Q=>wi W H λJ H1=>∀D,H1 D=none->∃Ww:Nat->Nat->List V->Hp->Prop,(∃m,Ww 0 m []<|upd H1 D<|.lst [])/\∀i m ys H2,Ww i m ys H2->
 (J.stop i H2/\Q (.ref D) H2)\/(J.go i H2/\∃N:List V->Hp->Prop,(∀ys' H',N ys' H'->∃m',m'<m/\Ww (i+1) m' ys' H')/\
  ∀x H',J.yld i H2 x H'->tc (some x::W) H' λb H3=>if b=true then te (some x::W) H3 λy H4=>H4 D=some (.lst ys)/\ys.length<sizeLine/\N (ys++[y]) (upd H4 D<|.lst<|ys++[y]) else N ys H3)
def qg(I:Inv X pins W H s)(hf:∀b∈fp,fq X pins H b)(J:Inv (bI X x scope fp s H) pins W' H' s')
  (Z:Heap.SameBut s.heap.objs.size s'.heap h'):Inv X pins W H' {s' with heap:=h'}:=by
 have hC:H' s.heap.objs.size=none:=J.free;have ne:∀b o,s.heap.get? b=some o->b≠s.heap.objs.size:=λb o e=>al<|ai e
 have u:Un _ fp H H' s.heap h':=
  ⟨λb o e n h Y=>(Z.2 b<|ne b o e).trans<|J.base.keep b o e n h Y,λb o e n h Y=>by
    obtain⟨sl,q⟩:=J.base.slot b o e n h Y;exact⟨sl,(Z.2 b<|ne b o e).trans q⟩,J.base.free,λb o e Y=>by
    obtain⟨o',q⟩:=J.base.there b o e Y;exact⟨o',(Z.2 b<|ne b o e).trans q⟩,J.base.tups,J.base.frzs,J.base.tbls⟩
 have hok:=λb ob e=>by
  refine(J.hok b ob e).stay (λc w' hc q=>(Z.2 c ?_).trans q) (λ_ q=>q) λ_ _ q=>q;intro z
  simp_all
 exact I.call' J.os u hok J.bare λb h=>⟨(hf b h).2.2.2.1,(hf b h).2.1,(hf b h).2.2.2.2.1,(hf b h).2.2.2.2.2⟩
def nw(hc:X.calm=true)(C:CompScope X x scope)(hx:(x::eJ scope X.N).Nodup)(hN:X.N.Nodup)
  (hi:PI X (.Name x px) iter wi)(ht:∀fp s H,yb (bI X x scope fp s H) ifs tc)(he:∀fp s H,PE (bI X x scope fp s H) elt te)
  (hs:∀x,foldedSetIterable iter X.env x=pure x){Q:VK}(I:Inv X pins W H s)(h:pq wi tc te W H Q){QQ:Value->Shared->Prop}
  (fin:∀{fp:List Addr}{Z s5:Shared}{H3 H4:Hp}{D:Addr}{o:Option V},Inv X pins W H3 Z->(∀b∈fp,fq X pins H3 b)->Inv (bI X x scope fp Z H3) pins (o::W) H4 s5->Q (.ref D) H4->compPost (model X.prog X.w) X.A X.xe use QQ (.ref D) Z.heap.objs.size (.ok .next) s5):
  wpAny (model X.prog X.w) X.A (comprehension (.ListComp elt [⟨.Name x px,iter,ifs,0⟩] scope pos) scope X.env ppos (newList []) false (eval iter X.env) use) QQ X.xe s:=by
 refine wpAny_comprehension_free rfl hs (f8<|C.cells I.ok) C.kind C.locs<|bR (hi pins s W H _ I h) λv s1 h1=>bR h1 λitv Y h2=>?_;obtain⟨it,fp,tn,J,H2,e,I2,T,st2,f2,R⟩:=h2;subst e;have hD:H2 Y.heap.objs.size=none:=I2.hok.fresh<|af _;obtain⟨Ww,⟨m0,w0⟩,turn⟩:=R _ hD;refine wpAny_newObj_type<|wpAny_newFunctionEnv C.nocell (by intro y hy;simp at hy) (λh₁ hns₁ hsb₁=>?_) C.kind
 dsimp only at hns₁ hsb₁ ⊢
 have I3:Inv X pins W (upd H2 Y.heap.objs.size<|.lst []) {Y with heap:=Y.heap.push {cls:= .type "list",dict:=none,data:= .seq ([]:List Value).toArray}}:=
  I2.laid (t':=Y.toks) (o:= .lst []) (λb ob q=>ac _ q) (af _) ⟨zero_le _,[],0,.nil,aj _ rfl⟩
 have f3:∀b∈fp,fq X pins (upd H2 Y.heap.objs.size<|.lst []) b:=λb hb=>by
  obtain⟨o,e,_⟩:=T.obj _ _ st2 b hb;obtain⟨g0,g⟩:=f2 b hb;exact⟨by rw[aq<|al<|ai e];exact g0,g⟩
 have o3:∀b∈fp,∃o,(Y.heap.push {cls:= .type "list",dict:=none,data:= .seq ([]:List Value).toArray}).get? b=some o:=λb hb=>by obtain⟨o,e,_⟩:=T.obj _ _ st2 b hb;exact⟨o,ac _ e⟩
 have old:∀b o,(Y.heap.push {cls:= .type "list",dict:=none,data:= .seq ([]:List Value).toArray}).get? b=some o->h₁.get? b=some o:=λb o e=>
  hsb₁.extBut b o (al<|ai e) (ac _ e)
 have K0:=qh (x:=x) (scope:=scope) (fp:=fp) (h':=h₁) (tk:=Y.toks) I3 C f3 o3 hns₁ old;have st3:tn 0 h₁:=T.keep _ _ _ st2 λb _ o e=>old b o<|ac _ e;generalize hs3:({Y with heap:=Y.heap.push {cls:= .type "list",dict:=none,data:= .seq ([]:List Value).toArray}}:Shared)=Z at I3 K0;have es3:Y.heap.push {cls:= .type "list",dict:=none,data:= .seq ([]:List Value).toArray}=Z.heap:=by rw[<-hs3]
 generalize hH3:upd H2 Y.heap.objs.size (.lst [])=H3 at I3 K0 f3 w0
 have stat:∀{H':Hp},(∀b∈fp,H' b=none)->∀b∈fp,fq (bI X x scope fp Z H3) pins H' b:=λ{H'} hn b hb=>by
  obtain⟨o,e⟩:=o3 b hb;rw[es3] at e;obtain⟨g0,g1,g2,g3,g4,g5⟩:=f3 b hb;refine⟨hn b hb,al<|ai e,λz=>?_,.inl hb,λy c h=>g4 y c (C.cell_of I.ok h).2,g5⟩;rcases mem_cons.mp (I3.stkSub _ z) with q|q
  .exact g1 q
  .exact g2 q
 have nd':(x::eJ scope X.N).Nodup:=hx;have lx:(relabel scope X.env).names.lookup x=some .local:=lookup_relabel_local C.own
 have loop:codeAny (model X.prog X.w) X.A (.compLoop (.ListComp elt [⟨.Name x px,iter,ifs,0⟩] scope pos) 0 (.ref it) (.ref Y.heap.objs.size) (bI X x scope fp Z H3).env)
   (compPost (model X.prog X.w) X.A X.xe use QQ (Value.ref Y.heap.objs.size) Z.heap.objs.size) {Z with heap:=h₁,toks:=Y.toks}:=by
  refine jY (λn s'=>∃i o ys H',Inv (bI X x scope fp Z H3) pins (o::W) H' s'/\tn i s'.heap/\(∀b∈fp,H' b=none)/\Ww i n ys H') ?_ m0 ⟨0,none,[],H3,K0,st3,λb hb=>(f3 b hb).1,w0⟩;rintro n s4 ⟨i,o,ys,H4,I4,st4,fr4,w4⟩;rcases turn i n ys H4 w4 with⟨stop,qn⟩|⟨go,N,hNN,step⟩
  .refine bR (T.done (bI X x scope fp Z H3) rfl rfl rfl hc i pins s4 (o::W) H4 _ I4 (stat fr4) st4 stop) λr s5 hp=>?_;obtain⟨hr,I5⟩:=hp;subst hr;exact fin I3 f3 I5 qn
  .refine bR (T.item (bI X x scope fp Z H3) rfl rfl rfl hc i pins s4 (o::W) H4 _ I4 (stat fr4) st4 go) λr s5 hp=>?_;obtain⟨u,hr,h5⟩:=hp;subst hr;refine bR h5 λ_ s6 hp=>?_;obtain⟨y,H6,I6,r6,y6,st6,fr6⟩:=hp;have I6':=I6.pinned (stat fr6)<|T.obj _ _ st6;refine wpAny_assign_Name (k8 (i:=0) I6' nd' rfl (.inl lx) r6 (λs7 I7=>?_)<|.inr lx)
   have keepS:∀{o':Option V}{H':Hp}{s':Shared},Inv (bI X x scope fp Z H3) (pins++ju fp s6.heap) (o'::W) H' s'->tn (i+1) s'.heap/\∀b∈fp,H' b=none:=λ{o' H' s'} I'=>by refine⟨T.keep _ _ _ st6 λb hb o e=>(I'.pin (b,o)<|aJ _<|aJ _<|dm hb e).1,λb hb=>?_⟩;obtain⟨o,e,d⟩:=T.obj _ _ st6 b hb;exact(I'.pin (b,o)<|aJ _<|aJ _<|dm hb e).2.1
   refine aO (ht fp Z H3 _ s7 (some y::W) H6 _ I7<|step y H6 y6) (λb s8 hp=>?_) λ_ _ z=>False.elim z;obtain⟨H8,I8,q8⟩:=hp;cases b with
   |false=>rw[if_neg bf] at q8 ⊢;obtain⟨m',hm,w8⟩:=hNN ys H8 q8;obtain⟨a1,a2⟩:=keepS I8;exact⟨m',hm,i+1,some y,ys,H8,I8.unpinned,a1,a2,w8⟩
   |true=>rw[if_pos rfl] at q8 ⊢;refine aO (he fp Z H3 _ s8 (some y::W) H8 _ I8 q8) (λv9 s9 hp=>?_) λ_ _ z=>False.elim z;obtain⟨y9,H9,I9,r9,hacc,hsz,q9⟩:=hp;refine aO (jx (X:=bI X x scope fp Z H3) _ s9 (some y::W) H9 (.ref Y.heap.objs.size) [y9] _ [v9] (λ_ H'=>N (ys++[y9]) H') I9 rfl (.cons r9 .nil) ⟨_,_,_,rfl,rfl,hacc,hsz,q9⟩) (λ_ s10 hp=>?_) λ_ _ z=>False.elim z;obtain⟨_,H10,I10,_,q10⟩:=hp;obtain⟨m',hm,w10⟩:=hNN _ H10 q10;obtain⟨a1,a2⟩:=keepS I10;exact⟨m',hm,i+1,some y,_,H10,I10.unpinned,a1,a2,w10⟩
 have eC:(Y.heap.push {cls:= .type "list",dict:=none,data:= .seq ([]:List Value).toArray}).objs.size=Z.heap.objs.size:=by rw[es3]
 rw[eC];have es4:({heap:=h₁,gens:=Y.gens,drawn:=Y.drawn,toks:=Y.toks+([]:List (Str×Value)).length,os:=Y.os}:Shared)={Z with heap:=h₁,toks:=Y.toks}:=by rw[<-hs3];rfl
 rw[es4];exact codeAny_compStart_list loop<|T.self _ 0 _ _ _ st3 loop
def oi(hc:X.calm=true)(C:CompScope X x scope)(hx:(x::eJ scope X.N).Nodup)(hN:X.N.Nodup)
  (hi:PI X (.Name x px) iter wi)(ht:∀fp s H,yb (bI X x scope fp s H) ifs tc)(he:∀fp s H,PE (bI X x scope fp s H) elt te)
  (hs:∀x,foldedSetIterable iter X.env x=pure x:=by intro _;rfl):PE X (.ListComp elt [⟨.Name x px,iter,ifs,0⟩] scope pos) (pq wi tc te):=by
 intro pins s W H Q I h;refine nw hc C hx hN hi ht he hs I h λI3 f3 Y qn=>?_;obtain⟨m5,J,_⟩:=id Y.loc;exact⟨m5,J,λh' Z=>⟨.ref _,_,qg I3 f3 Y Z,rfl,qn⟩⟩
def qU{i:Nat}(hc:X.calm=true)(C:CompScope X x scope)(hx:(x::eJ scope X.N).Nodup)(hN:X.N.Nodup)
  (hi:PI X (.Name x px) iter wi)(ht:∀fp s H,yb (bI X x scope fp s H) ifs tc)(he:∀fp s H,PE (bI X x scope fp s H) elt te)
  (hs:∀x,foldedSetIterable iter X.env x=pure x)(hy:X.N[i]? =some y)(hl:Loc X.env.scope y)(hf:X.fn y=true\/X.env.scope.names.lookup y=some .local):
  PS X (.Assign [.Name y py] (.ListComp elt [⟨.Name x px,iter,ifs,0⟩] scope pos) spos) (qJ (pq wi tc te)<|c6 i):=by
 have J:∃b,swapsWith (.ListComp elt [⟨.Name x px,iter,ifs,0⟩] scope pos) (some<|.Name y py) spos.line X.env=pure b:=⟨_,rfl⟩;obtain⟨b,J⟩:=J;cases b with
 |false=>exact n_ hN hy hl (oi hc C hx hN hi ht he hs) J hf
 |true=>
  intro pins s W H D I h;rw[exec_Assign_Name_used _ _ _ _ J];refine aa<|wpAny_standAt<|aa ?_;refine aa<|aO (nw (use:=some<|assign (.Name y py) X.env) (QQ:=λ_ s'=>SP X pins D .next s') hc C hx hN hi ht he hs I h λ{fp s3 s5 H3 H4 Dd o} Y f3 I5 qn=>?_) (λ_ s' hq=>ae<|ae hq) λ_ _ e=>e
  have I6:Inv X pins W H4 s5:=by have:=qg Y f3 I5<|Heap.SameBut.refl _ _;exact this
  obtain⟨m5,hn5,_⟩:=id I5.loc;have hC0:H4 s3.heap.objs.size=none:=I5.free;have Z:X.env.locals≠s3.heap.objs.size:=al Y.lt;show wpAny _ X.A (assign (.Name y py) X.env<|.ref Dd) _ _ _;refine wpAny_assign_Name<|jk (v:= .ref Dd) I6 hN hy hl rfl (λs7 I7 hch=>?_) hf;obtain⟨a,sb,ha⟩:=hch
  have hCa:s3.heap.objs.size≠a:=by
   rcases ha with rfl|ha
   .exact Z.symm
   .obtain⟨v,q⟩:=Y.cell y a ha;exact(al q.lt).symm
  refine⟨m5,hn5.sameBut sb hCa,λh' sb'=>⟨_,H4,?_,qn⟩⟩;refine I7.turned (t':=s7.toks) (it:=s3.heap.objs.size) (λb o J e=>(sb'.2 b J).trans e) hC0 Z.symm (.inr Y.sz) (λz c e=>?_) λp hp=>?_
  .obtain⟨v,q⟩:=Y.cell z c e;exact al q.lt
  .exact al<|ai (Y.pin p hp).1
def Inv.turnLaid{t':Nat}{p:Addr}(I:Inv X pins W H s)(hf:∀b∈fp,fq X pins H b)
  (k:∀b o,b∉fp->s.heap.get? b=some o->h'.get? b=some o)(hp:s.heap.objs.size<=p)(new:bL X.prog X.w (upd H p<|.tup xs) h' p (.tup xs)):Inv X pins W (upd H p<|.tup xs) {s with heap:=h',toks:=t'}:=by
 have Y:H p=none:=I.hok.fresh hp;have J:∀b u,H b=some u->b∉fp:=λb u e z=>by rw[(hf b z).1] at e;cases e
 have nep:∀{b:Addr}{o:Obj},s.heap.get? b=some o->b≠p:=λe=>al<|av (ai e) hp
 refine I.step (g':=s.gens) (d':=s.drawn) (ch:=fp) (λb Z=>?_) (λb o _ _ h e _=>k b o h e) (λb o _ _ h e _=>⟨o.slots,k b o h e⟩) (λb o _ e n=>by rw[aq<|nep e];exact n)
  (λb o h e=>⟨o,k b o h e⟩) (λb ys e=>by rw[aq<|aE e Y];exact e) (λb o u e=>by rw[aq<|aE e Y];exact e) (λb ps e=>⟨#[],by rw[aq<|aE e Y,e];simp⟩) (λm hm=>?_) (λb u e=>?_) I.bare
 .obtain⟨f0,f1,f2,f3,f4,f5⟩:=hf b Z;exact⟨f3,f1,f4,f5⟩
 .obtain⟨o,es,ep,ho,r⟩:=hm;exact⟨o,es,ep,k _ o (λz=>(hf _ z).2.1 rfl) ho,r⟩
 .by_cases Z:b=p
  .cases Z;rw[aT] at e;cases e;exact new
  .rw[aq Z] at e;refine(I.hok b u e).stay (λc v h q=>k c v ?_ q) (λc q=>by rw[aq<|aE q Y];exact q) λc ys q=>by rw[aq<|aE q Y];exact q
   rcases h with z|z
   .rw[z];exact J b u e
   .exact J c _ z
def iJ(X:Cx)(x:Str)(zs:List Str)(scope:Scope)(fp:List Addr)(s:Shared)(H:Hp):Cx:={bI X x scope fp s H with N:=x::(zs++eJ scope X.N)}
def xI(I:Inv X pins W H s)(C:CompScope X x scope)(J:∀b∈fp,fq X pins H b)(ho:∀b∈fp,∃o,s.heap.get? b=some o):
  (iJ X x zs scope fp s H).Ok:=by
 have h:=fW I C J ho;exact⟨h.mod,h.kind,h.glob,h.blt,h.above,h.inj,h.has,h.cab,h.hd,h.frames,h.stk,h.exf,h.bs,h.bsz,h.noex,h.exfs,h.funs,h.frf⟩
def uV{tk:Nat}{m:Str->Option Value}(I:Inv X pins W H s)(C:CompScope X x scope)(Z:∀b∈fp,fq X pins H b)(ho:∀b∈fp,∃o,s.heap.get? b=some o)
  (hn:h'.Ns s.heap.objs.size m)(k:∀b o,s.heap.get? b=some o->h'.get? b=some o):Inv (iJ X x zs scope fp s H) pins (none::zs.map (λ_=>none)++W) H {s with heap:=h',toks:=tk}:=by
 have J:=qh (x:=x) (scope:=scope) (fp:=fp) (h':=h') (tk:=tk) I C Z ho hn k;refine⟨xI I C Z ho,J.os,J.bare,J.base,?_,J.cell,J.free,J.freeC,J.pin,J.hok,?_⟩
 .obtain⟨m',Y,hl⟩:=J.loc;refine⟨m',Y,λi z v h1 h h3=>?_⟩;cases i with
  |zero=>simp at h
  |succ i=>
   have h1:(zs++eJ scope X.N)[i]? =some z:=h1;have h:(zs.map (λ_=>none)++W)[i]? =some (some v):=h;by_cases hi:i<zs.length
   .rw[aI (by rw[length_map];exact hi),az] at h
    simp_all
   .rw[aM (by omega)] at h1
    rw[aM (by rw[length_map];omega),length_map] at h
    exact hl (i - zs.length+1) z v h1 h h3
 .show(none::(zs.map (λ_=>none)++W)).length=(x::(zs++eJ scope X.N)).length;simp[I.len,eJ]
def nv(I:Inv X pins W H s)(hf:∀b∈fp,fq X pins H b)(J:Inv (iJ X x zs scope fp s H) pins W' H' s')
  (Z:Heap.SameBut s.heap.objs.size s'.heap h'):Inv X pins W H' {s' with heap:=h'}:=by
 have hC:H' s.heap.objs.size=none:=J.free;have ne:∀b o,s.heap.get? b=some o->b≠s.heap.objs.size:=λb o e=>al<|ai e
 have u:Un _ fp H H' s.heap h':=
  ⟨λb o e n h Y=>(Z.2 b<|ne b o e).trans<|J.base.keep b o e n h Y,λb o e n h Y=>by
    obtain⟨sl,q⟩:=J.base.slot b o e n h Y;exact⟨sl,(Z.2 b<|ne b o e).trans q⟩,J.base.free,λb o e Y=>by
    obtain⟨o',q⟩:=J.base.there b o e Y;exact⟨o',(Z.2 b<|ne b o e).trans q⟩,J.base.tups,J.base.frzs,J.base.tbls⟩
 have hok:=λb ob e=>by
  refine(J.hok b ob e).stay (λc w' hc q=>(Z.2 c ?_).trans q) (λ_ q=>q) λ_ _ q=>q;intro z
  simp_all
 exact I.call' J.os u hok J.bare λb h=>⟨(hf b h).2.2.2.1,(hf b h).2.1,(hf b h).2.2.2.2.1,(hf b h).2.2.2.2.2⟩
def nU(n:Nat)(wi:TI)(g:TG)(tc:TT)(te:TE):TE:=λW H Q=>wi W H λJ H1=>∀D,H1 D=none->∃Ww:Nat->Nat->List V->Hp->Prop,(∃m,Ww 0 m []<|upd H1 D<|.lst [])/\∀i m ys H2,Ww i m ys H2->
 (J.stop i H2/\Q (.ref D) H2)\/(J.go i H2/\∃N:List V->Hp->Prop,(∀ys' H',N ys' H'->∃m',m'<m/\Ww (i+1) m' ys' H')/\
  ∀x H',J.yld i H2 x H'->∀os:List (Option V),os.length=n->g x (os++W) H' λW2 H3=>(∃ps:List (Option V),ps.length=n/\W2=ps++W)/\tc W2 H3 λb H5=>if b=true then te W2 H5 λy H4=>H4 D=some (.lst ys)/\ys.length<sizeLine/\N (ys++[y]) (upd H4 D<|.lst<|ys++[y]) else N ys H5)
def l0{g:TG}(hc:X.calm=true)(C:CompScope X x scope)
  (hi:PI X tg iter wi)(hg:∀fp s H,PG (iJ X x zs scope fp s H) tg g)(ht:∀fp s H,yb (iJ X x zs scope fp s H) ifs tc)(he:∀fp s H,PE (iJ X x zs scope fp s H) elt te)
  (hs:∀x,foldedSetIterable iter X.env x=pure x){Q:VK}(I:Inv X pins W H s)(h:nU (zs.length+1) wi g tc te W H Q){QQ:Value->Shared->Prop}
  (fin:∀{fp:List Addr}{Z s5:Shared}{H3 H4:Hp}{D:Addr}{os:List (Option V)},Inv X pins W H3 Z->(∀b∈fp,fq X pins H3 b)->Inv (iJ X x zs scope fp Z H3) pins (os++W) H4 s5->Q (.ref D) H4->compPost (model X.prog X.w) X.A X.xe use QQ (.ref D) Z.heap.objs.size (.ok .next) s5):
  wpAny (model X.prog X.w) X.A (comprehension (.ListComp elt [⟨tg,iter,ifs,0⟩] scope pos) scope X.env ppos (newList []) false (eval iter X.env) use) QQ X.xe s:=by
 refine wpAny_comprehension_free rfl hs (f8<|C.cells I.ok) C.kind C.locs<|bR (hi pins s W H _ I h) λv s1 h1=>bR h1 λitv Y h2=>?_;obtain⟨it,fp,tn,J,H2,e,I2,T,st2,f2,R⟩:=h2;subst e;have hD:H2 Y.heap.objs.size=none:=I2.hok.fresh<|af _;obtain⟨Ww,⟨m0,w0⟩,turn⟩:=R _ hD;refine wpAny_newObj_type<|wpAny_newFunctionEnv C.nocell (by intro y hy;simp at hy) (λh₁ hns₁ hsb₁=>?_) C.kind
 dsimp only at hns₁ hsb₁ ⊢
 have I3:Inv X pins W (upd H2 Y.heap.objs.size<|.lst []) {Y with heap:=Y.heap.push {cls:= .type "list",dict:=none,data:= .seq ([]:List Value).toArray}}:=
  I2.laid (t':=Y.toks) (o:= .lst []) (λb ob q=>ac _ q) (af _) ⟨zero_le _,[],0,.nil,aj _ rfl⟩
 have f3:∀b∈fp,fq X pins (upd H2 Y.heap.objs.size<|.lst []) b:=λb hb=>by
  obtain⟨o,e,_⟩:=T.obj _ _ st2 b hb;obtain⟨g0,g⟩:=f2 b hb;exact⟨by rw[aq<|al<|ai e];exact g0,g⟩
 have o3:∀b∈fp,∃o,(Y.heap.push {cls:= .type "list",dict:=none,data:= .seq ([]:List Value).toArray}).get? b=some o:=λb hb=>by obtain⟨o,e,_⟩:=T.obj _ _ st2 b hb;exact⟨o,ac _ e⟩
 have old:∀b o,(Y.heap.push {cls:= .type "list",dict:=none,data:= .seq ([]:List Value).toArray}).get? b=some o->h₁.get? b=some o:=λb o e=>
  hsb₁.extBut b o (al<|ai e) (ac _ e)
 have K0:=uV (x:=x) (zs:=zs) (scope:=scope) (fp:=fp) (h':=h₁) (tk:=Y.toks) I3 C f3 o3 hns₁ old;have st3:tn 0 h₁:=T.keep _ _ _ st2 λb _ o e=>old b o<|ac _ e;generalize hs3:({Y with heap:=Y.heap.push {cls:= .type "list",dict:=none,data:= .seq ([]:List Value).toArray}}:Shared)=Z at I3 K0;have es3:Y.heap.push {cls:= .type "list",dict:=none,data:= .seq ([]:List Value).toArray}=Z.heap:=by rw[<-hs3]
 generalize hH3:upd H2 Y.heap.objs.size (.lst [])=H3 at I3 K0 f3 w0
 have stat:∀{H':Hp},(∀b∈fp,H' b=none)->∀b∈fp,fq (iJ X x zs scope fp Z H3) pins H' b:=λ{H'} hn b hb=>by
  obtain⟨o,e⟩:=o3 b hb;rw[es3] at e;obtain⟨g0,g1,g2,g3,g4,g5⟩:=f3 b hb;refine⟨hn b hb,al<|ai e,λz=>?_,.inl hb,λy c h=>g4 y c (C.cell_of I.ok h).2,g5⟩;rcases mem_cons.mp (I3.stkSub _ z) with q|q
  .exact g1 q
  .exact g2 q
 have loop:codeAny (model X.prog X.w) X.A (.compLoop (.ListComp elt [⟨tg,iter,ifs,0⟩] scope pos) 0 (.ref it) (.ref Y.heap.objs.size) (iJ X x zs scope fp Z H3).env)
   (compPost (model X.prog X.w) X.A X.xe use QQ (Value.ref Y.heap.objs.size) Z.heap.objs.size) {Z with heap:=h₁,toks:=Y.toks}:=by
  refine jY (λn s'=>∃i os ys H',os.length=zs.length+1/\Inv (iJ X x zs scope fp Z H3) pins (os++W) H' s'/\tn i s'.heap/\(∀b∈fp,H' b=none)/\Ww i n ys H') ?_ m0 ⟨0,none::zs.map (λ_=>none),[],H3,by simp,K0,st3,λb hb=>(f3 b hb).1,w0⟩
  rintro n s4 ⟨i,os,ys,H4,ho,I4,st4,fr4,w4⟩;rcases turn i n ys H4 w4 with⟨stop,qn⟩|⟨go,N,hNN,step⟩
  .refine bR (T.done (iJ X x zs scope fp Z H3) rfl rfl rfl hc i pins s4 (os++W) H4 _ I4 (stat fr4) st4 stop) λr s5 hp=>?_;obtain⟨hr,I5⟩:=hp;subst hr;exact fin I3 f3 I5 qn
  .refine bR (T.item (iJ X x zs scope fp Z H3) rfl rfl rfl hc i pins s4 (os++W) H4 _ I4 (stat fr4) st4 go) λr s5 hp=>?_;obtain⟨u,hr,h5⟩:=hp;subst hr;refine bR h5 λ_ s6 hp=>?_;obtain⟨yv,H6,I6,r6,y6,st6,fr6⟩:=hp;have I6':=I6.pinned (stat fr6) (T.obj _ _ st6)
   have keepS:∀{rs:List (Option V)}{H':Hp}{s':Shared},Inv (iJ X x zs scope fp Z H3) (pins++ju fp s6.heap) (rs++W) H' s'->tn (i+1) s'.heap/\∀b∈fp,H' b=none:=λ{rs H' s'} I'=>by refine⟨T.keep _ _ _ st6 λb hb o e=>(I'.pin (b,o)<|aJ _<|aJ _<|dm hb e).1,λb hb=>?_⟩;obtain⟨o,e,d⟩:=T.obj _ _ st6 b hb;exact(I'.pin (b,o)<|aJ _<|aJ _<|dm hb e).2.1
   refine aO (hg fp Z H3 _ s6 (os++W) H6 yv u _ I6' r6<|step yv H6 y6 os ho) (λ_ s7 hp=>?_) λ_ _ z=>False.elim z;obtain⟨W7,H7,I7,⟨qs,hq,hW⟩,q7⟩:=hp;subst hW;refine aO (ht fp Z H3 _ s7 (qs++W) H7 _ I7 q7) (λbb s8 hp=>?_) λ_ _ z=>False.elim z;obtain⟨H8,I8,q8⟩:=hp;cases bb with
   |false=>rw[if_neg bf] at q8 ⊢;obtain⟨m',hm,w8⟩:=hNN ys H8 q8;obtain⟨a1,a2⟩:=keepS I8;exact⟨m',hm,i+1,qs,ys,H8,hq,I8.unpinned,a1,a2,w8⟩
   |true=>
   rw[if_pos rfl] at q8 ⊢;refine aO (he fp Z H3 _ s8 (qs++W) H8 _ I8 q8) (λv9 s9 hp=>?_) λ_ _ z=>False.elim z;obtain⟨y9,H9,I9,r9,hacc,hsz,q9⟩:=hp;refine aO (jx (X:=iJ X x zs scope fp Z H3) _ s9 (qs++W) H9 (.ref Y.heap.objs.size) [y9] _ [v9] (λ_ H'=>N (ys++[y9]) H') I9 rfl (.cons r9 .nil) ⟨_,_,_,rfl,rfl,hacc,hsz,q9⟩) (λ_ s10 hp=>?_) λ_ _ z=>False.elim z;obtain⟨_,H10,I10,_,q10⟩:=hp;obtain⟨m',hm,w10⟩:=hNN _ H10 q10;obtain⟨a1,a2⟩:=keepS I10;exact⟨m',hm,i+1,qs,_,H10,hq,I10.unpinned,a1,a2,w10⟩
 have eC:(Y.heap.push {cls:= .type "list",dict:=none,data:= .seq ([]:List Value).toArray}).objs.size=Z.heap.objs.size:=by rw[es3]
 rw[eC];have es4:({heap:=h₁,gens:=Y.gens,drawn:=Y.drawn,toks:=Y.toks+([]:List (Str×Value)).length,os:=Y.os}:Shared)={Z with heap:=h₁,toks:=Y.toks}:=by rw[<-hs3];rfl
 rw[es4];exact codeAny_compStart_list loop<|T.self _ 0 _ _ _ st3 loop
def lA{g:TG}(hc:X.calm=true)(C:CompScope X x scope)
  (hi:PI X tg iter wi)(hg:∀fp s H,PG (iJ X x zs scope fp s H) tg g)(ht:∀fp s H,yb (iJ X x zs scope fp s H) ifs tc)(he:∀fp s H,PE (iJ X x zs scope fp s H) elt te)
  (hs:∀x,foldedSetIterable iter X.env x=pure x):PE X (.ListComp elt [⟨tg,iter,ifs,0⟩] scope pos) (nU (zs.length+1) wi g tc te):=by
 intro pins s W H Q I h;refine l0 hc C hi hg ht he hs I h λI3 f3 Y qn=>?_;obtain⟨m5,J,_⟩:=id Y.loc;exact⟨m5,J,λh' Z=>⟨.ref _,_,nv I3 f3 Y Z,rfl,qn⟩⟩
def pG{z:Str}{g:TG}{i:Nat}(hc:X.calm=true)(C:CompScope X x scope)(hN:X.N.Nodup)
  (hi:PI X tg iter wi)(hg:∀fp s H,PG (iJ X x zs scope fp s H) tg g)(ht:∀fp s H,yb (iJ X x zs scope fp s H) ifs tc)(he:∀fp s H,PE (iJ X x zs scope fp s H) elt te)
  (hs:∀x,foldedSetIterable iter X.env x=pure x)(hy:X.N[i]? =some z)(hl:Loc X.env.scope z)(hf:X.fn z=true\/X.env.scope.names.lookup z=some .local):
  PS X (.Assign [.Name z pz] (.ListComp elt [⟨tg,iter,ifs,0⟩] scope pos) spos) (qJ (nU (zs.length+1) wi g tc te)<|c6 i):=by
 have J:∃b,swapsWith (.ListComp elt [⟨tg,iter,ifs,0⟩] scope pos) (some<|.Name z pz) spos.line X.env=pure b:=⟨_,rfl⟩;obtain⟨b,J⟩:=J;cases b with
 |false=>exact n_ hN hy hl (lA hc C hi hg ht he hs) J hf
 |true=>
  intro pins s W H D I h;rw[exec_Assign_Name_used _ _ _ _ J];refine aa<|wpAny_standAt<|aa ?_;refine aa<|aO (l0 (use:=some<|assign (.Name z pz) X.env) (QQ:=λ_ s'=>SP X pins D .next s') hc C hi hg ht he hs I h λ{fp s3 s5 H3 H4 Dd os} Y f3 I5 qn=>?_) (λ_ s' hq=>ae<|ae hq) λ_ _ e=>e
  have I6:Inv X pins W H4 s5:=by have:=nv Y f3 I5<|Heap.SameBut.refl _ _;exact this
  obtain⟨m5,hn5,_⟩:=id I5.loc;have hC0:H4 s3.heap.objs.size=none:=I5.free;have Z:X.env.locals≠s3.heap.objs.size:=al Y.lt;show wpAny _ X.A (assign (.Name z pz) X.env<|.ref Dd) _ _ _;refine wpAny_assign_Name<|jk (v:= .ref Dd) I6 hN hy hl rfl (λs7 I7 hch=>?_) hf;obtain⟨a,sb,ha⟩:=hch
  have hCa:s3.heap.objs.size≠a:=by
   rcases ha with rfl|ha
   .exact Z.symm
   .obtain⟨v,q⟩:=Y.cell z a ha;exact(al q.lt).symm
  refine⟨m5,hn5.sameBut sb hCa,λh' sb'=>⟨_,H4,?_,qn⟩⟩;refine I7.turned (t':=s7.toks) (it:=s3.heap.objs.size) (λb o J e=>(sb'.2 b J).trans e) hC0 Z.symm (.inr Y.sz) (λz c e=>?_) λp hp=>?_
  .obtain⟨v,q⟩:=Y.cell z c e;exact al q.lt
  .exact al<|ai (Y.pin p hp).1
end L2
namespace Ev
open L2
variable{xs ys:List V}{a p:Addr}{H H':Hp}{m m' n:Nat}{G G':Nat->Addr}{vs:List (Key×V)}
inductive D where
 |non|bl (b:Bool)|int (i:Int)|str (x:Str)|tup (xs:List D)|fl (xs:List D)|ref (n:Nat)
 deriving Inhabited
inductive O where
 |lst (xs:List D)|dct (kvs:List (Key×D))|ins (c:Str)(fs:List (Str×D))|dcf (kvs:List (Key×D))
noncomputable abbrev aV:=List O
inductive R(α:Type) where
 |ok (a:α)(st:aV)
 |bad
abbrev M(α:Type):=aV->R α
noncomputable def ret{α:Type}(a:α):M α:=λst=>.ok a st
noncomputable def bg{α β:Type}(m:M α)(f:α->M β):M β:=λst=>match m st with
 | .ok a st'=>f a st'
 | .bad=>.bad
noncomputable def stuck{α:Type}:M α:=λ_=>.bad
noncomputable def eW{α:Type}(o:Option α):M α:=λst=>match o with
 |some a=>.ok a st
 |none=>.bad
noncomputable def items:O->Option (List D)
 | .lst xs=>some xs
 |_=>none
inductive Sh where
 |sc (v:V)|t (xs:List D)|l (xs:List D)|d (kvs:List (Key×D))
noncomputable def shape(st:aV):D->Option Sh
 | .non=>some<|.sc .non
 | .bl b=>some<|.sc<|.bl b
 | .int i=>some<|.sc<|.int i
 | .str x=>some<|.sc<|.str x
 | .tup xs=>some<|.t xs
 | .fl xs=>some<|.l xs
 | .ref n=>match st[n]? with
  |some (.lst xs)=>some<|.l xs
  |some (.dct kvs)=>some<|.d kvs
  |_=>none
noncomputable def fm(f:D->D->Option Bool):List D->List D->Option Bool
 |[],[]=>some true
 |[],_::_=>some false
 |_::_,[]=>some false
 |a::as,b::bs=>match f a b,fm f as bs with
  |some x,some y=>some<|x&&y
  |_,_=>none
noncomputable def Ca:Key->Bool
 | .inl _=>true
 | .inr _=>false
noncomputable def rq(f:D->D->Option Bool)(a b:D):Option Bool:=match a,b with
 | .ref i,.ref j=>if i=j then some true else f a b
 |_,_=>f a b
def dX(n:Nat)(st:aV)(a b:D):Option Bool:=match n with
 |0=>none
 |n+1=>match shape st a,shape st b with
  |some (.sc x),some (.sc y)=>some<|rP x y
  |some (.t xs),some (.t ys)=>fm (rq<|dX n st) xs ys
  |some (.l xs),some (.l ys)=>fm (rq<|dX n st) xs ys
  |some (.d xs),some (.d ys)=>if xs.map (·.1)=ys.map (·.1)/\(xs.map (·.1)).all Ca=true then fm (rq<|dX n st) (xs.map (·.2)) (ys.map (·.2)) else none
  |some (.d _),some (.l _)=>some false
  |some (.d _),some _=>none
  |some _,some (.d _)=>none
  |some _,some _=>some false
  |_,_=>none
def tZ(K:aw)(H:Hp)(a:Addr)(xs:List V):Prop:=
 (∃o,H a=some (.frz o<|.lst xs))\/
  ∃(o:Obj)(its:Array Value)(n:Nat),K.lookup a=some o/\o.cls=.type "list" /\o.dict=none/\o.data=.seq its n/\its.size<=sizeLine/\bq xs its.toList
def tZ.sql{K:aw}(h:tZ K H a xs):dG K H a xs:=by
 rcases h with h|h
 .exact .inl<|.inr h
 .exact .inr h
mutual
inductive VRel(K:aw)(H:Hp)(G:Nat->Addr)(m:Nat):D->V->Prop where
 |non:VRel K H G m .non .non
 |bl (b:Bool):VRel K H G m (.bl b) (.bl b)
 |int (i:Int):VRel K H G m (.int i) (.int i)
 |str (x:Str):VRel K H G m (.str x) (.str x)
 |tup {a:Addr}{ds:List D}{xs:List V}(h:dY K H a xs)(r:VRels K H G m ds xs):VRel K H G m (.tup ds) (.ref a)
 |fl {a:Addr}{ds:List D}{xs:List V}(h:tZ K H a xs)(r:VRels K H G m ds xs):VRel K H G m (.fl ds) (.ref a)
 |ref {n:Nat}(h:n<m):VRel K H G m (.ref n) (.ref<|G n)
inductive VRels(K:aw)(H:Hp)(G:Nat->Addr)(m:Nat):List D->List V->Prop where
 |nil:VRels K H G m [] []
 |cons {d:D}{v:V}{ds:List D}{vs:List V}(h:VRel K H G m d v)(t:VRels K H G m ds vs):VRels K H G m (d::ds) (v::vs)
end
structure Ext0(H H':Hp)(G G':Nat->Addr)(m m':Nat):Prop where
 le:m<=m'
 ad:∀n,n<m->G' n=G n
 tp:∀b xs,H b=some (.tup xs)->H' b=some (.tup xs)
 fz:∀b o u,H b=some (.frz o u)->H' b=some (.frz o u)
structure Ext(H H':Hp)(G G':Nat->Addr)(m m':Nat):Prop extends Ext0 H H' G G' m m' where
 fr:∀b o,H b=some o->(∀n,n<m->G n≠b)->H' b=some o/\∀n,n<m'->G' n≠b
def Ext.refl(H:Hp)(G:Nat->Addr)(m:Nat):Ext H H G G m m:=⟨⟨af _,λ_ _=>rfl,λ_ _ h=>h,λ_ _ _ h=>h⟩,λ_ _ h k=>⟨h,k⟩⟩
theorem Ext.trans{H1 I:Hp}{G1 G2:Nat->Addr}{m1 m2:Nat}(a:Ext H H1 G G1 m m1)(b:Ext H1 I G1 G2 m1 m2):Ext H I G G2 m m2:=
 ⟨⟨ao a.le b.le,λn h=>(b.ad n<|av h a.le).trans<|a.ad n h,λc xs e=>b.tp c xs<|a.tp c xs e,λc o u e=>b.fz c o u<|a.fz c o u e⟩,λc o e k=>by obtain⟨e1,k1⟩:=a.fr c o e k;exact b.fr c o e1 k1⟩
def dY.ext{K:aw}(e:Ext0 H H' G G' m m')(h:dY K H a xs):dY K H' a xs:=by
 rcases h with(h|⟨o,h⟩)|h
 .exact .inl<|.inl<|e.tp _ _ h
 .exact .inl<|.inr ⟨o,e.fz _ _ _ h⟩
 .exact .inr h
def tZ.ext{K:aw}(e:Ext0 H H' G G' m m')(h:tZ K H a xs):tZ K H' a xs:=by
 rcases h with⟨o,h⟩|h
 .exact .inl ⟨o,e.fz _ _ _ h⟩
 .exact .inr h
mutual
theorem VRel.ext0{K:aw}(e:Ext0 H H' G G' m m'):∀{d:D}{v:V},VRel K H G m d v->VRel K H' G' m' d v
 |_,_,.non=>.non
 |_,_,.bl b=>.bl b
 |_,_,.int i=>.int i
 |_,_,.str x=>.str x
 |_,_,.tup h r=>.tup (dY.ext e h)<|VRels.ext0 e r
 |_,_,.fl h r=>.fl (tZ.ext e h)<|VRels.ext0 e r
 |_,_,.ref (n:=n) h=>by rw[<-e.ad n h];exact .ref<|av h e.le
theorem VRels.ext0{K:aw}(e:Ext0 H H' G G' m m'):∀{ds:List D}{vs:List V},VRels K H G m ds vs->VRels K H' G' m' ds vs
 |_,_,.nil=>.nil
 |_,_,.cons h t=>.cons (VRel.ext0 e h)<|VRels.ext0 e t
end
def VRel.ext{K:aw}(h:VRel K H G m d v)(e:Ext H H' G G' m m'):VRel K H' G' m' d v:=VRel.ext0 e.toExt0 h
def VRels.ext{K:aw}(h:VRels K H G m d v)(e:Ext H H' G G' m m'):VRels K H' G' m' d v:=VRels.ext0 e.toExt0 h
section
variable{K:aw}{H:Hp}{G:Nat->Addr}{m:Nat}
theorem VRels.length:∀{ds:List D}{vs:List V},VRels K H G m ds vs->ds.length=vs.length
 |_,_,.nil=>rfl
 |_,_,.cons _ t=>by rw[length_cons,length_cons,t.length]
theorem VRels.get:∀{ds:List D}{vs:List V}{i:Nat}{d:D},VRels K H G m ds vs->ds[i]? =some d->∃v,vs[i]? =some v/\VRel K H G m d v
 |_,_,_,_,.nil,e=>by simp at e
 |_,_,0,_,.cons r _,e=>by simp at e;subst e;exact⟨_,rfl,r⟩
 |_,_,i+1,d,.cons _ t,e=>by
  obtain⟨v,h1,h⟩:=t.get (by simpa using e)
  exact⟨v,by trivial,h⟩
theorem VRels.append:∀{ds es:List D}{vs h:List V},VRels K H G m ds vs->VRels K H G m es h->VRels K H G m (ds++es) (vs++h)
 |_,_,_,_,.nil,s=>s
 |_,_,_,_,.cons r t,s=>.cons r<|t.append s
theorem VRels.set:∀{ds:List D}{vs:List V}{d:D}{v:V}(i:Nat),VRels K H G m ds vs->VRel K H G m d v->VRels K H G m (ds.set i d) (vs.set i v)
 |_,_,_,_,_,.nil,_=>.nil
 |_,_,_,_,0,.cons _ t,r=>.cons r t
 |_,_,_,_,i+1,.cons q t,r=>.cons q<|t.set i r
theorem VRels.take:∀{ds:List D}{vs:List V}(n:Nat),VRels K H G m ds vs->VRels K H G m (ds.take n) (vs.take n)
 |_,_,0,_=>.nil
 |_,_,_+1,.nil=>.nil
 |_,_,n+1,.cons r t=>.cons r<|t.take n
theorem VRels.drop:∀{ds:List D}{vs:List V}(n:Nat),VRels K H G m ds vs->VRels K H G m (ds.drop n) (vs.drop n)
 |_,_,0,h=>h
 |_,_,_+1,.nil=>.nil
 |_,_,n+1,.cons _ t=>t.drop n
end
inductive DRels(K:aw)(H:Hp)(G:Nat->Addr)(m:Nat):List (Key×D)->List (Key×V)->Prop where
 |nil:DRels K H G m [] []
 |cons {k:Key}{d:D}{v:V}{ds:List (Key×D)}{vs:List (Key×V)}(h:VRel K H G m d v)(t:DRels K H G m ds vs):DRels K H G m ((k,d)::ds) ((k,v)::vs)
theorem DRels.ext0{K:aw}(e:Ext0 H H' G G' m m'){ds:List (Key×D)}(h:DRels K H G m ds vs):DRels K H' G' m' ds vs:=by
 induction h with
 |nil=>exact .nil
 |cons h t ih=>exact .cons (VRel.ext0 e h) ih
def DRels.ext{K:aw}{ds:List (Key×D)}(h:DRels K H G m ds vs)(e:Ext H H' G G' m m'):DRels K H' G' m' ds vs:=h.ext0 e.toExt0
theorem DRels.length{K:aw}{ds:List (Key×D)}(h:DRels K H G m ds vs):ds.length=vs.length:=by
 induction h with
 |nil=>rfl
 |cons h t ih=>simp_all
def DRels.append{K:aw}{ds es:List (Key×D)}(h:DRels K H G m ds vs)(k:DRels K H G m es I):DRels K H G m (ds++es) (vs++I):=by
 induction h with
 |nil=>exact k
 |cons h t ih=>exact .cons h ih
inductive FRels(K:aw)(H:Hp)(G:Nat->Addr)(m:Nat):List (Str×D)->List (Str×V)->Prop where
 |nil:FRels K H G m [] []
 |cons {k:Str}{d:D}{v:V}{ds:List (Str×D)}{vs:List (Str×V)}(h:VRel K H G m d v)(t:FRels K H G m ds vs):FRels K H G m ((k,d)::ds) ((k,v)::vs)
theorem FRels.ext0{K:aw}(e:Ext0 H H' G G' m m'){ds:List (Str×D)}{vs:List (Str×V)}(h:FRels K H G m ds vs):FRels K H' G' m' ds vs:=by
 induction h with
 |nil=>exact .nil
 |cons h t ih=>exact .cons (VRel.ext0 e h) ih
def FRels.look{K:aw}{f:Str}{ds:List (Str×D)}{vs:List (Str×V)}(h:FRels K H G m ds vs)(e:ds.lookup f=some d):∃v,vs.lookup f=some v/\VRel K H G m d v:=by
 induction h with
 |nil=>cases e
 | @cons k d' v ds vs h t ih=>
  rw[lookup_cons] at e ⊢;cases q:f==k with
  |true=>simp_all
  |false=>rw[q] at e;exact ih e
noncomputable def putD(f:Str)(d:D):List (Str×D)->List (Str×D)
 |[]=>[(f,d)]
 |(g,x)::r=>if g=f then(g,d)::r else(g,x)::putD f d r
def FRels.put{K:aw}{f:Str}(q:VRel K H G m d v){ds:List (Str×D)}{vs:List (Str×V)}(h:FRels K H G m ds vs):FRels K H G m (putD f d ds) (eF f v vs):=by
 induction h with
 |nil=>exact .cons q .nil
 | @cons k d' v' ds vs h t ih=>
  unfold putD eF;by_cases e:k=f
  .rw[if_pos e,if_pos e];exact .cons q t
  .rw[if_neg e,if_neg e];exact .cons h ih
theorem FRels.length{K:aw}{ds:List (Str×D)}{vs:List (Str×V)}(h:FRels K H G m ds vs):ds.length=vs.length:=by
 induction h with
 |nil=>rfl
 |cons h t ih=>simp_all
def jN(K:aw)(H:Hp)(G:Nat->Addr)(m:Nat)(a:Addr):O->Prop
 | .lst ds=>∃xs,H a=some (.lst xs)/\VRels K H G m ds xs
 | .dct kvs=>∃vs,H a=some (.dK vs)/\DRels K H G m kvs vs
 | .ins x fs=>∃C dx vs,PySem.W.nsIn K mainGlobals x=some (some<|.ref C)/\H a=some (.ins C dx vs)/\FRels K H G m fs vs/\fs.length<=900
 | .dcf kvs=>∃ob vs,H a=some (.frz ob<|.dK vs)/\DRels K H G m kvs vs
def jN.move{K:aw}{o:O}(h:jN K H G m a o)(E:Ext0 H H' G G' m m')(J:H' a=H a):jN K H' G' m' a o:=by
 cases o with
 |lst ds=>obtain⟨xs,h1,I⟩:=h;exact⟨xs,J.trans h1,VRels.ext0 E I⟩
 |dct ds=>obtain⟨xs,h1,I⟩:=h;exact⟨xs,J.trans h1,I.ext0 E⟩
 |ins x fs=>obtain⟨C,dx,xs,h0,h1,I,Z⟩:=h;exact⟨C,dx,xs,h0,J.trans h1,I.ext0 E,Z⟩
 |dcf ds=>obtain⟨Y,xs,h1,I⟩:=h;exact⟨Y,xs,J.trans h1,I.ext0 E⟩
def jN.there{K:aw}{o:O}(h:jN K H G m a o):∃u,H a=some u/\(∀xs,u≠ .tup xs)/\∀J w,(∀kvs,w≠ .dK kvs)->u≠ .frz J w:=by
 cases o with
 |ins x fs=>obtain⟨C,dx,xs,h0,h1,I⟩:=h;simp_all
 |dcf ds=>obtain⟨J,xs,h1,I⟩:=h;exact⟨_,h1,(λ_ z=>by cases z),(λ_ _ n z=>by cases z;exact n _ rfl)⟩
 |_=>obtain⟨xs,h1,I⟩:=h;simp_all
def jN.there2{K:aw}{o:O}(h:jN K H G m a o)(Y:∀kvs,o≠ .dcf kvs):∃u,H a=some u/\(∀xs,u≠ .tup xs)/\∀J w,u≠ .frz J w:=by
 cases o with
 |ins x fs=>obtain⟨C,dx,xs,h0,h1,I⟩:=h;simp_all
 |dcf ds=>simp_all
 |_=>obtain⟨xs,h1,I⟩:=h;simp_all
structure Sim(K:aw)(H:Hp)(G:Nat->Addr)(st:aV):Prop where
 inj:∀i j,i<st.length->j<st.length->G i=G j->i=j
 ob:∀n o,st[n]? =some o->jN K H G st.length (G n) o
def Sim.laid{K:aw}{st:aV}(S:Sim K H G st)(J:H p=none){ho:HO}{o:O}
  (hr:∀G',(∀n,n<st.length->G' n=G n)->G' st.length=p->jN K (upd H p ho) G' (st.length+1) p o):
  ∃G',Ext H (upd H p ho) G G' st.length (st.length+1)/\G' st.length=p/\Sim K (upd H p ho) G' (st++[o]):=by
 have hK:∀n o,st[n]? =some o->G n≠p:=λn o e=>by have q:=S.ob n o e;obtain⟨u,h1,_⟩:=q.there;exact aE h1 J
 have E:Ext H (upd H p ho) G (λn=>if n=st.length then p else G n) st.length (st.length+1):=⟨⟨le_succ _,λn I=>by simp[ne_of_lt I],λb xs e=>by rw[aq<|aE e J];exact e,λb h u e=>by rw[aq<|aE e J];exact e⟩,λb h e k=>by
  refine⟨by rw[aq<|aE e J];exact e,λn I=>?_⟩
  by_cases hn':n=st.length
  .rw[if_pos hn'];exact(aE e J).symm
  .rw[if_neg hn'];exact k n (by lia)⟩
 refine⟨λn=>if n=st.length then p else G n,E,by simp,?_⟩
 have lt:∀{n},n<st.length->∃o,st[n]? =some o:=λ{n} I=>⟨st[n],by simp[I]⟩
 refine⟨λi j hi hj e=>?_,λn h e=>?_⟩
 .rw[aD,length_singleton] at hi hj;by_cases hi':i=st.length
  .by_cases hj':j=st.length
   .lia
   .have q:p=G j:=by simpa[hi',hj'] using e
    obtain⟨h,eo⟩:=lt (show j<st.length by lia)
    exact absurd q.symm<|hK j h eo
  .by_cases hj':j=st.length
   .have q:G i=p:=by simpa[hi',hj'] using e
    obtain⟨h,eo⟩:=lt (show i<st.length by lia)
    exact absurd q<|hK i h eo
   .exact S.inj i j (by lia) (by lia) (by simpa[hi',hj'] using e)
 .rw[aD,length_singleton];by_cases I:n=st.length
  .subst I;rw[aM<|af _,sub_self] at e;have e':o=h:=by simpa using e
   subst e';have:=hr (λn=>if n=st.length then p else G n) (λn I=>by simp[ne_of_lt I]) (by simp)
   simpa using this
  .have Z:n<st.length:=by
    have:=(au e).1;rw[aD,length_singleton] at this
    lia
   rw[aI Z] at e;have old:=S.ob n h e;have Y:G n≠p:=hK n h e;have hG:(if n=st.length then p else G n)=G n:=by rw[if_neg I]
   rw[hG];exact old.move E.toExt0<|aq Y
def Sim.write{K:aw}{st:aV}(S:Sim K H G st){ds es:List D}(e:st[n]? =some (.lst ds))(r:VRels K H G st.length es ys):
  Ext H (upd H (G n)<|.lst ys) G G st.length st.length/\Sim K (upd H (G n)<|.lst ys) G (st.set n<|.lst es):=by
 obtain⟨xs,h1,Z⟩:=S.ob n _ e;have I:=(au e).1
 have E:Ext H (upd H (G n)<|.lst ys) G G st.length st.length:=by
  refine⟨⟨af _,λ_ _=>rfl,λb zs q=>?_,λb o u q=>?_⟩,λb o q k=>⟨by rw[aq (k n I).symm];exact q,k⟩⟩
  .rw[aq<|cg q h1 (by intro z;cases z)];exact q
  .rw[aq<|cg q h1 (by intro z;cases z)];exact q
 refine⟨E,λi j hi Y=>S.inj i j (by simpa using hi) (by simpa using Y),λk o q=>?_⟩
 rw[aG];by_cases hk:k=n
 .subst hk;rw[aY I] at q;cases q;exact⟨ys,aT,r.ext E⟩
 .rw[aS<|Ne.symm hk] at q;have J:k<st.length:=(au q).1;have h:G k≠G n:=λz=>hk<|S.inj k n J I z;have old:=S.ob k o q;exact old.move E.toExt0<|aq h
def Sim.add{K:aw}{st:aV}(S:Sim K H G st){ds:List D}(Y:H p=some (.lst ys))(ap:∀n,n<st.length->G n≠p)(r:VRels K H G st.length ds ys):
  ∃G',(∀n,n<st.length->G' n=G n)/\G' st.length=p/\Sim K H G' (st++[.lst ds]):=by
 have up:Ext0 H H G (λn=>if n=st.length then p else G n) st.length (st.length+1):=⟨le_succ _,λn h=>by simp[ne_of_lt h],λ_ _ e=>e,λ_ _ _ e=>e⟩
 refine⟨λn=>if n=st.length then p else G n,λn h=>by simp[ne_of_lt h],by simp,⟨λi j hi Z e=>?_,λn J e=>?_⟩⟩
 .rw[aD,length_singleton] at hi Z;by_cases hi':i=st.length
  .by_cases hj':j=st.length
   .omega
   .exact absurd (show G j=p by simpa[hi',hj'] using e.symm)<|ap j (by omega)
  .by_cases hj':j=st.length
   .exact absurd (show G i=p by simpa[hi',hj'] using e)<|ap i (by omega)
   .exact S.inj i j (by omega) (by omega) (by simpa[hi',hj'] using e)
 .rw[aD,length_singleton];by_cases h:n=st.length
  .subst h;rw[aM<|af _,sub_self] at e;have e':O.lst ds=J:=by simpa using e
   subst e';refine⟨ys,?_,VRels.ext0 up r⟩;simpa using Y
  .have I:n<st.length:=by have:=(au e).1;rw[aD,length_singleton] at this;omega
   rw[aI I] at e;have old:=S.ob n J e;have hG:(if n=st.length then p else G n)=G n:=by rw[if_neg h]
   rw[hG];exact old.move up rfl
def Sim.writeD{K:aw}{st:aV}(S:Sim K H G st){ys:List (Key×V)}(e:st[n]? =some (.dct kvs))(r:DRels K H G st.length kvs' ys):
  Ext H (upd H (G n)<|.dK ys) G G st.length st.length/\Sim K (upd H (G n)<|.dK ys) G (st.set n<|.dct kvs'):=by
 obtain⟨xs,h1,Z⟩:=S.ob n _ e;have I:=(au e).1
 have E:Ext H (upd H (G n)<|.dK ys) G G st.length st.length:=by
  refine⟨⟨af _,λ_ _=>rfl,λb zs q=>?_,λb o u q=>?_⟩,λb o q k=>⟨by rw[aq (k n I).symm];exact q,k⟩⟩
  .rw[aq<|cg q h1 (by intro z;cases z)];exact q
  .rw[aq<|cg q h1 (by intro z;cases z)];exact q
 refine⟨E,λi j hi Y=>S.inj i j (by simpa using hi) (by simpa using Y),λk o q=>?_⟩
 rw[aG];by_cases hk:k=n
 .subst hk;rw[aY I] at q;cases q;exact⟨ys,aT,r.ext E⟩
 .rw[aS<|Ne.symm hk] at q;have J:k<st.length:=(au q).1;have h:G k≠G n:=λz=>hk<|S.inj k n J I z;have old:=S.ob k o q;exact old.move E.toExt0<|aq h
def Sim.addD{K:aw}{st:aV}(S:Sim K H G st){ys:List (Key×V)}{ds:List (Key×D)}(Y:H p=some (.dK ys))(ap:∀n,n<st.length->G n≠p)(r:DRels K H G st.length ds ys):
  ∃G',(∀n,n<st.length->G' n=G n)/\G' st.length=p/\Sim K H G' (st++[.dct ds]):=by
 have up:Ext0 H H G (λn=>if n=st.length then p else G n) st.length (st.length+1):=⟨le_succ _,λn h=>by simp[ne_of_lt h],λ_ _ e=>e,λ_ _ _ e=>e⟩
 refine⟨λn=>if n=st.length then p else G n,λn h=>by simp[ne_of_lt h],by simp,⟨λi j hi Z e=>?_,λn J e=>?_⟩⟩
 .rw[aD,length_singleton] at hi Z;by_cases hi':i=st.length
  .by_cases hj':j=st.length
   .omega
   .exact absurd (show G j=p by simpa[hi',hj'] using e.symm)<|ap j (by omega)
  .by_cases hj':j=st.length
   .exact absurd (show G i=p by simpa[hi',hj'] using e)<|ap i (by omega)
   .exact S.inj i j (by omega) (by omega) (by simpa[hi',hj'] using e)
 .rw[aD,length_singleton];by_cases h:n=st.length
  .subst h;rw[aM<|af _,sub_self] at e;have e':O.dct ds=J:=by simpa using e
   subst e';refine⟨ys,?_,r.ext0 up⟩;simpa using Y
  .have I:n<st.length:=by have:=(au e).1;rw[aD,length_singleton] at this;omega
   rw[aI I] at e;have old:=S.ob n J e;have hG:(if n=st.length then p else G n)=G n:=by rw[if_neg h]
   rw[hG];exact old.move up rfl
end Ev
namespace PySem.SeqAt
open MeetsSeq
variable{ns:List Int}{es es2:Array DictEntry}{ep ep2:Nat}{a b l:Addr}{f:Nat->Bool}
def KD(es:Array DictEntry)(ns:List Int):Prop:=es.size=ns.length/\∀(i:Nat)(e:DictEntry)(n:Int),es[i]? =some e->ns[i]? =some n->(∃t,e.key=.int n t)/\e.hash=hashInt n
def Ac(h:Heap)(d:Addr)(ns:List Int)(us:List Value):Prop:=
 ∃es ep,h.get? d=some {cls:= .type "dict",dict:=none,data:= .dict es ep,slots:= #[]}/\es.toList.map (·.val)=us/\ns.Nodup/\KD es ns
def DX(h:KD es ns)(prog:Program)(w:World):KeysOf (intKind prog w) es:=by
 obtain⟨hl,h⟩:=h;intro e I;obtain⟨i,hi,rfl⟩:=Array.getElem_of_mem I;have Z:ns[i]? =some (ns[i]'(by omega)):=by simp
 obtain⟨⟨t,Y⟩,J⟩:=h i es[i] _ (by simp) Z
 exact⟨ns[i]'(by omega),by rw[Y];exact intKind_is _ _ _ _,J⟩
def Eh(nd:ns.Nodup)(J:KD es ns)(prog:Program)(w:World){i:Nat}{n:Int}(h:ns[i]? =some n):es.findIdx? (λe=>(intKind prog w).is n e.key)=some i:=by
 obtain⟨Z,J⟩:=J;obtain⟨hi,rfl⟩:=au h
 have key:∀j (I:j<es.size),(intKind prog w).is ns[i] es[j].key=decide _:=λj I=>by
  obtain⟨⟨t,Y⟩,_⟩:=J j es[j] (ns[j]'(by lia)) (by simp[I]) (by simp)
  rw[Y];exact KeyKind.is_eq_decide (intKind_is _ _ _ _) _
 rw[Array.findIdx?_eq_some_iff_getElem];refine⟨by omega,by rw[key i (by omega)];simp,λj I=>?_⟩
 rw[key j (by lia)]
 have:ns[i]≠ns[j]:=λe=>by
  have:=List.pairwise_iff_getElem.mp nd j i (by omega) hi I
  exact this e.symm
 simp[this]
section
variable{prog:Program}{w:World}{A:Around}{E:Value->Shared->Prop}{s:Shared}
def zM{Q:Array DictEntry->Shared->Prop}(ho:s.heap.get? a=some {cls:= .type "dict",dict:=none,data:= .dict es ep,slots:= #[]})(h:Q es s):wpAny (model prog w) A (dictEntries a) Q E s:=by exact aa<|wpAny_loadPart' ho<|ae h
def Gz{Q:Nat->Shared->Prop}(ho:s.heap.get? a=some {cls:= .type "dict",dict:=none,data:= .dict es ep,slots:= #[]})(h:Q ep s):wpAny (model prog w) A (dictEpoch a) Q E s:=by exact aa<|wpAny_loadPart' ho<|ae h
def lg{id:String}{Q:Bool->Shared->Prop}(zl:(l==sysModules)=false)(zb:(b==sysModules)=false)(Z:s.heap.get? l=some {cls:= .type "dict",dict:=none,data:= .dict es ep,slots:= #[]})(hb:s.heap.get? b=some {cls:= .type "dict",dict:=none,data:= .dict es2 ep2,slots:= #[]})
  (nd:ns.Nodup)(h1:KD es ns)(h2:KD es2 ns)(he:∀(j:Nat)(e e2:DictEntry),es[j]? =some e->es2[j]? =some e2->EqAt A s e.val e2.val (f j))(h:Q ((range es.size).all f) s):
  wpAny (model prog w) A (Builtin.Dict.samePairs id l b) Q E s:=by
 have e1:=h1.1;have e2:=h2.1;unfold Builtin.Dict.samePairs Builtin.Dict.showsAll;rw[zl,zb];refine aa<|ae<|aa<|ae<|aa<|zM Z<|aa<|zM hb ?_;rw[if_neg (by simp[e1,e2])]
 refine aa<|Gz Z ?_;rw[Std.Legacy.Range.forIn_eq_forIn_range'];refine aa<|wpAny_forIn_list _ (λrest q s'=>s'=s/\q=(none,())/\∃k,k+rest.length=es.size/\rest=range' k rest.length/\(range k).all f=true) _ (λi rest q s' hI=>?_) (λq s' hI=>?_) _ _ ?_
 .obtain⟨rfl,rfl,k,hk,hr,ha⟩:=hI
  have hik:i=k/\rest=range' (k+1) rest.length:=by rw[length_cons,List.range'_succ] at hr;injection hr with q1 q2;exact⟨q1,q2⟩
  obtain⟨rfl,I⟩:=hik;rw[length_cons] at hk;have hi:i<es.size:=by lia
  refine aa<|zM Z ?_;rw[show es[i]? =some es[i] by simp[hi]]
  dsimp only;have hn:ns[i]? =some (ns[i]'(by lia)):=by simp
  obtain⟨⟨t,k1⟩,k2⟩:=h1.2 i es[i] _ (by simp[hi]) hn
  refine aa<|wpAny_holding<|aa ?_;rw[k2];refine wpAny_dictFind_of (knd:=intKind prog w) (k:=ns[i]'(by lia)) (by rw[k1];exact intKind_is _ _ _ _) hb rfl (DX h2 prog w) ?_
  rw[Eh nd h2 prog w hn];dsimp only;refine aa<|zM hb ?_;have J:i<es2.size:=by lia
  rw[show es2[i]? =some es2[i] by simp[J]]
  dsimp only;refine wpAny_holding<|he i _ _ (by simp[hi]) (by simp[J]) prog w _ _ ?_
  cases hf:f i with
  |false=>
   have Y:(range es.size).all f=false:=by
    rw[List.all_eq_false];exact⟨i,mem_range.mpr hi,by simp[hf]⟩
   rw[Y] at h;exact ae<|ae h
  |true=>
   refine aa<|Gz Z ?_;rw[if_neg (by simp)]
   refine ae ⟨rfl,rfl,i+1,by lia,I,?_⟩
   rw[range_succ,List.all_append,ha];simp[hf]
 .obtain⟨rfl,rfl,k,hk,hr,ha⟩:=hI;have:k=es.size:=by simpa using hk
  subst this;rw[ha] at h;exact ae h
 .refine⟨rfl,rfl,0,by simp[Std.Legacy.Range.size],by simp[Std.Legacy.Range.size],rfl⟩
def uP(Y:(l==sysModules)=false)(Z:(b==sysModules)=false)(nd:ns.Nodup)(h1:KD es ns)(h2:KD es2 ns):
  Meets (Builtin.«dict.__eq__» ⟨[.ref l,.ref b],[]⟩) (λA R s=>s.heap.get? l=some {cls:= .type "dict",dict:=none,data:= .dict es ep,slots:= #[]}/\s.heap.get? b=some {cls:= .type "dict",dict:=none,data:= .dict es2 ep2,slots:= #[]}/\
   (∀(j:Nat)(e e2:DictEntry),es[j]? =some e->es2[j]? =some e2->EqAt A.in1 s e.val e2.val (f j))/\R (.ok<|.ret<|.bool<|(range es.size).all f) s):=
 .of_wp λprog w A R s h=>by
  obtain⟨hp,g,d,tk,os⟩:=s;obtain⟨I,J,he,h⟩:=h
  wp_walk using wpAny_loadPart' I,wpAny_loadPart' J
  refine wpAny_of_eq F.sub_dict_dict ?_;refine aa<|ae<|aa<|ae<|aa<|lg (f:=f) Y Z I J nd h1 h2 he ?_;exact ae ⟨_,rfl,by simpa using h⟩
def uO(Y:(l==sysModules)=false)(Z:(b==sysModules)=false)(nd:ns.Nodup)(h1:KD es ns)(h2:KD es2 ns):
  Meets (Builtin.«dict.__ne__» ⟨[.ref l,.ref b],[]⟩) (λA R s=>s.heap.get? l=some {cls:= .type "dict",dict:=none,data:= .dict es ep,slots:= #[]}/\s.heap.get? b=some {cls:= .type "dict",dict:=none,data:= .dict es2 ep2,slots:= #[]}/\
   (∀(j:Nat)(e e2:DictEntry),es[j]? =some e->es2[j]? =some e2->EqAt A.in1 s e.val e2.val (f j))/\R (.ok<|.ret<|.bool<|!(range es.size).all f) s):=
 .of_wp λprog w A R s h=>by
  obtain⟨hp,g,d,tk,os⟩:=s;obtain⟨I,J,he,h⟩:=h
  wp_walk using wpAny_loadPart' I,wpAny_loadPart' J
  refine wpAny_of_eq F.sub_dict_dict ?_;refine aa<|ae<|aa<|ae<|aa<|lg (f:=f) Y Z I J nd h1 h2 he ?_;refine ae ⟨_,rfl,?_⟩;cases q:(range es.size).all f<;>rw[q] at h<;>exact h
end
section
variable{A:Around}{s:Shared}
def RcAt.dicts(Z:(l==sysModules)=false)(zb:(b==sysModules)=false)(hl:Ac s.heap l ns us)(hb:Ac s.heap b ns vs)(hu:A.units<cLine)(he:∀j (h1:j<us.length)(h2:j<vs.length),EqAt A.in1 s us[j] vs[j]<|f j):
  RcAt A s (.ref l) (.ref b) ((range us.length).all f)/\RcNeAt A s (.ref l) (.ref b) (!(range us.length).all f):=by
 obtain⟨es,ep,ho,rfl,nd,k1⟩:=hl;obtain⟨es2,ep2,I,rfl,_,k2⟩:=hb
 have J:∀(j:Nat)(e Y:DictEntry),es[j]? =some e->es2[j]? =some Y->EqAt A.in1 s e.val Y.val (f j):=λj e Y q1 q2=>by
  obtain⟨i1,rfl⟩:=Array.getElem?_eq_some_iff.mp q1;obtain⟨i2,rfl⟩:=Array.getElem?_eq_some_iff.mp q2;have:=he j (by simpa using i1) (by simpa using i2)
  simpa using this
 rw[length_map,length_toList]
 exact⟨λprog w E Q h=>richCompare_meets_room (op:= .Eq) ⟨_,ho,rfl⟩ ⟨_,I,rfl⟩ F.slot_dict_eq F.entry_dict_eq (F.args_dict_eq_2 _ _) (uP Z zb nd k1 k2) ⟨ho,I,J,(λx=>nomatch x),h⟩ hu,
  λprog w E Q h=>richCompare_meets_room ⟨_,ho,rfl⟩ ⟨_,I,rfl⟩ F.slot_dict_ne F.entry_dict_ne (F.args_dict_ne_2 _ _) (uO Z zb nd k1 k2) ⟨ho,I,J,(λx=>nomatch x),h⟩ hu⟩
end
end PySem.SeqAt
set_option genInjectivity false
namespace Ev
variable{α β:Type}{u v:Value}{x y:V}{s:Shared}{A:Around}{a l:Addr}{m n:Nat}{G:Nat->Addr}{H:Hp}{st:aV}{W:L2.St}{pins:List (Addr×Obj)}{X:Cx}
def bs{o:Option α}{f:α->Option β}{b:β}(h:o.bind f=some b):∃a,o=some a/\f a=some b:=by
 cases o with
 |none=>cases h
 |some a=>exact⟨a,rfl,h⟩
def eG{c:Prop}[Decidable c]{x:Option β}{b:β}(h:(if c then x else none)=some b):c/\x=some b:=by
 simp_all
def Gp{c:Prop}[Decidable c]{x y:Option β}{b:β}(h:(if c then x else y)=some b):(c/\x=some b)\/y=some b:=by
 by_cases k:c
 .simp_all
 simp_all
def om{o:Option α}{G:Option β}{F:α->Option β}{b:β}(h:o.elim G F=some b):(∃a,o=some a/\F a=some b)\/(o=none/\G=some b):=by
 cases o with
 |none=>exact .inr ⟨rfl,h⟩
 |some a=>exact .inl ⟨a,rfl,h⟩
def map_some{f:α->β}{o:Option α}{b:β}(h:o.map f=some b):∃a,o=some a/\b=f a:=by
 cases o with
 |none=>cases h
 |some a=>simp_all
noncomputable def one{α:Type}:List α->Option α
 |[a]=>some a
 |_=>none
def cH{l:List α}{a:α}(h:one l=some a):l=[a]:=by rcases l with _|⟨b,_|⟨c,l⟩⟩<;>cases h;rfl
noncomputable def lB{α:Type}:List α->Option (α×α)
 |[a,b]=>some (a,b)
 |_=>none
def dZ{l:List α}{p:α×α}(h:lB l=some p):l=[p.1,p.2]:=by rcases l with _|⟨b,_|⟨c,_|⟨d,l⟩⟩⟩<;>cases h;rfl
open L2
open PySem.SeqAt
def CI(I:RelV y u)(h:RelV x v)(Y:cT y=true)(J:cT x=true):RcAt A s u v (rP y x):=by
 cases y with
 |non=>
  cases I;cases x with
  |non=>subst h;exact RcAt.none_none
  |bl b=>subst h;exact RcAt.none_bool b
  |int b=>obtain⟨tb,rfl⟩:=h;exact RcAt.none_int b tb
  |str b=>obtain⟨tb,rfl⟩:=h;exact RcAt.none_str b tb
  |_=>exact rO J
 |bl a=>
  subst I;cases x with
  |non=>subst h;exact RcAt.bool_none a
  |bl b=>subst h;exact RcAt.bool_bool a b
  |int b=>obtain⟨tb,rfl⟩:=h;exact RcAt.bool_int a b tb
  |str b=>obtain⟨tb,rfl⟩:=h;exact RcAt.bool_str a b tb
  |_=>exact rO J
 |int a=>
  obtain⟨ta,rfl⟩:=I;cases x with
  |non=>subst h;exact RcAt.int_none a ta
  |bl b=>subst h;exact RcAt.int_bool a ta b
  |int b=>obtain⟨tb,rfl⟩:=h;exact RcAt.int_int a ta b tb
  |str b=>obtain⟨tb,rfl⟩:=h;exact RcAt.int_str a ta b tb
  |_=>exact rO J
 |str a=>
  obtain⟨ta,rfl⟩:=I;cases x with
  |non=>subst h;exact RcAt.str_none a ta
  |bl b=>subst h;exact RcAt.str_bool a ta b
  |int b=>obtain⟨tb,rfl⟩:=h;exact RcAt.str_int a ta b tb
  |str b=>obtain⟨tb,rfl⟩:=h;exact RcAt.str_str a ta b tb
  |_=>exact rO J
 |_=>exact rO Y
def xU(I:RelV y u)(h:RelV x v)(Y:cT y=true)(J:cT x=true):RcNeAt A s u v (!rP y x):=by
 cases y with
 |non=>
  cases I;cases x with
  |non=>subst h;exact RcNeAt.none_none
  |bl b=>subst h;exact RcNeAt.none_bool b
  |int b=>obtain⟨tb,rfl⟩:=h;exact RcNeAt.none_int b tb
  |str b=>obtain⟨tb,rfl⟩:=h;exact RcNeAt.none_str b tb
  |_=>exact rO J
 |bl a=>
  subst I;cases x with
  |non=>subst h;exact RcNeAt.bool_none a
  |bl b=>subst h;exact RcNeAt.bool_bool a b
  |int b=>obtain⟨tb,rfl⟩:=h;exact RcNeAt.bool_int a b tb
  |str b=>obtain⟨tb,rfl⟩:=h;exact RcNeAt.bool_str a b tb
  |_=>exact rO J
 |int a=>
  obtain⟨ta,rfl⟩:=I;cases x with
  |non=>subst h;exact RcNeAt.int_none a ta
  |bl b=>subst h;exact RcNeAt.int_bool a ta b
  |int b=>obtain⟨tb,rfl⟩:=h;exact RcNeAt.int_int a ta b tb
  |str b=>obtain⟨tb,rfl⟩:=h;exact RcNeAt.int_str a ta b tb
  |_=>exact rO J
 |str a=>
  obtain⟨ta,rfl⟩:=I;cases x with
  |non=>subst h;exact RcNeAt.str_none a ta
  |bl b=>subst h;exact RcNeAt.str_bool a ta b
  |int b=>obtain⟨tb,rfl⟩:=h;exact RcNeAt.str_int a ta b tb
  |str b=>obtain⟨tb,rfl⟩:=h;exact RcNeAt.str_str a ta b tb
  |_=>exact rO J
 |_=>exact rO Y
def ma{items:Array Value}(J:s.heap.IsList l items)(I:A.units<cLine)(h:RelV x v)(Y:cT x=true):RcAt A s (.ref l) v false:=by
 cases x with
 |non=>subst h;exact RcAt.list_none J I
 |bl b=>subst h;exact RcAt.list_bool b J I
 |int b=>obtain⟨tb,rfl⟩:=h;exact RcAt.list_int b tb J I
 |str b=>obtain⟨tb,rfl⟩:=h;exact RcAt.list_str b tb J I
 |_=>trivial
def md{items:Array Value}(J:s.heap.IsList l items)(I:A.units<cLine)(h:RelV x v)(Y:cT x=true):RcAt A s v (.ref l) false:=by
 cases x with
 |non=>subst h;exact RcAt.none_list J I
 |bl b=>subst h;exact RcAt.bool_list b J I
 |int b=>obtain⟨tb,rfl⟩:=h;exact RcAt.int_list b tb J I
 |str b=>obtain⟨tb,rfl⟩:=h;exact RcAt.str_list b tb J I
 |_=>trivial
def oW{items:Array Value}(J:s.heap.IsList l items)(I:A.units<cLine)(h:RelV x v)(Y:cT x=true):RcNeAt A s (.ref l) v true:=by
 cases x with
 |non=>subst h;exact RcNeAt.list_none J I
 |bl b=>subst h;exact RcNeAt.list_bool b J I
 |int b=>obtain⟨tb,rfl⟩:=h;exact RcNeAt.list_int b tb J I
 |str b=>obtain⟨tb,rfl⟩:=h;exact RcNeAt.list_str b tb J I
 |_=>trivial
def oX{items:Array Value}(J:s.heap.IsList l items)(I:A.units<cLine)(h:RelV x v)(Y:cT x=true):RcNeAt A s v (.ref l) true:=by
 cases x with
 |non=>subst h;exact RcNeAt.none_list J I
 |bl b=>subst h;exact RcNeAt.bool_list b J I
 |int b=>obtain⟨tb,rfl⟩:=h;exact RcNeAt.int_list b tb J I
 |str b=>obtain⟨tb,rfl⟩:=h;exact RcNeAt.str_list b tb J I
 |_=>trivial
def j4{items:Array Value}(J:s.heap.IsTuple l items)(I:A.units<cLine)(h:RelV x v)(Y:cT x=true):RcAt A s (.ref l) v false:=by
 cases x with
 |non=>subst h;exact RcAt.tuple_none J I
 |bl b=>subst h;exact RcAt.tuple_bool b J I
 |int b=>obtain⟨tb,rfl⟩:=h;exact RcAt.tuple_int b tb J I
 |str b=>obtain⟨tb,rfl⟩:=h;exact RcAt.tuple_str b tb J I
 |_=>trivial
def j5{items:Array Value}(J:s.heap.IsTuple l items)(I:A.units<cLine)(h:RelV x v)(Y:cT x=true):RcAt A s v (.ref l) false:=by
 cases x with
 |non=>subst h;exact RcAt.none_tuple J I
 |bl b=>subst h;exact RcAt.bool_tuple b J I
 |int b=>obtain⟨tb,rfl⟩:=h;exact RcAt.int_tuple b tb J I
 |str b=>obtain⟨tb,rfl⟩:=h;exact RcAt.str_tuple b tb J I
 |_=>trivial
def mH{items:Array Value}(J:s.heap.IsTuple l items)(I:A.units<cLine)(h:RelV x v)(Y:cT x=true):RcNeAt A s (.ref l) v true:=by
 cases x with
 |non=>subst h;exact RcNeAt.tuple_none J I
 |bl b=>subst h;exact RcNeAt.tuple_bool b J I
 |int b=>obtain⟨tb,rfl⟩:=h;exact RcNeAt.tuple_int b tb J I
 |str b=>obtain⟨tb,rfl⟩:=h;exact RcNeAt.tuple_str b tb J I
 |_=>trivial
def mI{items:Array Value}(J:s.heap.IsTuple l items)(I:A.units<cLine)(h:RelV x v)(Y:cT x=true):RcNeAt A s v (.ref l) true:=by
 cases x with
 |non=>subst h;exact RcNeAt.none_tuple J I
 |bl b=>subst h;exact RcNeAt.bool_tuple b J I
 |int b=>obtain⟨tb,rfl⟩:=h;exact RcNeAt.int_tuple b tb J I
 |str b=>obtain⟨tb,rfl⟩:=h;exact RcNeAt.str_tuple b tb J I
 |_=>trivial
def nH{k:Bool}(Y:(Value.ref l==b)=false)(h:RcAt A s (.ref l) b k):EqAt A s (.ref l) b k:=λprog w E Q J=>by
 refine wpAny_holding ?_;refine wpAny_ite_split (λI=>absurd I (by simp_all))<|λ_=>?_
 exact aa<|h prog w E _<|wpAny_truthy_bool J
def nG{a:Value}{k:Bool}(I:(a==Value.ref l)=false)(h:RcAt A s a (.ref l) k):EqAt A s a (.ref l) k:=λprog w E Q Y=>by
 unfold eqBool;refine wpAny_holding ?_;refine wpAny_ite_split (λJ=>absurd J (by rw[I];exact bf))<|λ_=>?_
 cases a<;>exact aa<|h prog w E _<|wpAny_truthy_bool Y
def At(K:aw)(H:Hp)(G:Nat->Addr)(m:Nat)(d:D)(u:Value):Prop:=∃v,VRel K H G m d v/\RelV v u
def ye(K:aw)(H:Hp)(G:Nat->Addr)(m:Nat)(ds:List D)(us:List Value):Prop:=∃vs,VRels K H G m ds vs/\bq vs us
theorem ye.length{K:aw}{ds:List D}(h:ye K H G m ds us):ds.length=us.length:=by obtain⟨vs,a,b⟩:=h;rw[a.length,b.length]
inductive ShAt(K:aw)(H:Hp)(G:Nat->Addr)(m:Nat)(s:Shared):Sh->Value->Prop where
 |sc {v:V}{u:Value}(f:cT v=true)(r:RelV v u):ShAt K H G m s (.sc v) u
 |t {a:Addr}{xs:List D}{its:Array Value}(h:s.heap.IsTuple a its)(r:ye K H G m xs its.toList):ShAt K H G m s (.t xs) (.ref a)
 |l {a:Addr}{xs:List D}{its:Array Value}(h:s.heap.IsList a its)(r:ye K H G m xs its.toList):ShAt K H G m s (.l xs) (.ref a)
 |d {a:Addr}{kvs:List (Key×D)}(h:xW s.heap a)(z:(a==sysModules)=false)(r:∀ns,kvs.map (·.1)=ns.map (Sum.inl:Int->Key)->∃us,Ac s.heap a ns us/\ye K H G m (kvs.map (·.2)) us):ShAt K H G m s (.d kvs) (.ref a)
theorem pR:∀{ks:List Key},ks.all Ca=true->∃ns:List Int,ks=ns.map (Sum.inl:Int->Key)
 |[],_=>⟨[],rfl⟩
 | .inl n::ks,h=>by
  obtain⟨ns,rfl⟩:=pR (ks:=ks) (by trivial)
  exact⟨n::ns,rfl⟩
 | .inr _::ks,h=>by trivial
def DRels.keys{K:aw}{ds:List (Key×D)}(h:DRels K H G m ds vs):ds.map (·.1)=vs.map (·.1):=by
 induction h with
 |nil=>rfl
 |cons h t ih=>simp_all
def DRels.vals{K:aw}{ds:List (Key×D)}(h:DRels K H G m ds vs):VRels K H G m (ds.map (·.2)) (vs.map (·.2)):=by
 induction h with
 |nil=>exact .nil
 |cons h t ih=>exact .cons h ih
theorem tx:∀{kvs:List (Key×V)}{vs:List (Key×Value)},KV kvs vs->kvs.map (·.1)=vs.map (·.1)
 |_,_,.nil=>rfl
 |_,_,.cons r t=>by rw[map_cons,map_cons,tx t,r.1]
theorem tw:∀{kvs:List (Key×V)}{vs:List (Key×Value)}{es:List DictEntry},KV kvs vs->Pairs (bD P w) es vs->bq (kvs.map (·.2)) (es.map (·.val))
 |_,_,_,.nil,.nil=>.nil
 |_,_,_,.cons r t,.cons h1 h2 u=>.cons (by simp_all)<|tw t u
def zU{P:Program}{w:World}{h:Heap}{o:Obj}{es:Array DictEntry}{ep:Nat}{vs:List (Key×Value)}{ns:List Int}(h1:h.get? a=some {cls:= .type "dict",dict:=none,data:= .dict es ep,slots:= #[]})(h4:KeysOf (bD P w) es)(Y:Pairs (bD P w) es.toList vs)(J:(vs.map (·.1)).Nodup)(e:vs.map (·.1)=ns.map (Sum.inl:Int->Key)):Ac h a ns (es.toList.map (·.val)):=by
 have key:∀{es:List DictEntry}{vs:List (Key×Value)},Pairs (bD P w) es vs->∀{j:Nat}{x:DictEntry}{k:Key},es[j]? =some x->(vs.map (·.1))[j]? =some k->il k x.key=true:=by
  intro es vs p
  induction p with
  |nil=>intro j x k q;simp at q
  |cons a b c ih=>
   intro j x k q1 q2;cases j with
   |zero=>simp at q1 q2;subst q1 q2;exact a
   |succ j=>exact ih (by simpa using q1) (by simpa using q2)
 refine⟨es,ep,h1,rfl,?_,?_,λi x n q1 q2=>?_⟩
 .rw[e] at J;exact(List.pairwise_map.mp J).imp λI z=>I (by rw[z])
 .have l1:=Y.length;have Z:=congrArg List.length e;simp at l1 Z
  lia
 .have k1:=key Y (j:=i) (x:=x) (k:= .inl n) (by simpa using q1) (by rw[e,az,q2];rfl)
  rcases bK k1 with⟨i',t,e1,e2⟩|⟨y,t,e1,_⟩
  .cases e1;obtain⟨k,g1,g2⟩:=h4 x<|Array.mem_of_getElem? q1;have:k=.inl n:=(bD P w).inj x.key k (.inl n) g1 k1;subst this;exact⟨⟨t,e2⟩,g2⟩
  .cases e1
def pv{Y:Sh}(I:Inv X pins W H s)(S:Sim X.K H G st)(h:At X.K H G st.length d u)(e:shape st d=some Y):
  ShAt X.K H G st.length s Y u:=by
 obtain⟨v,hv,r⟩:=h;cases hv with
 |tup h hr=>
  cases e;cases r;obtain⟨its,rv,p,_⟩:=I.tuple h;exact .t p ⟨_,hr,by simpa using rv⟩
 |fl h hr=>
  cases e;cases r;obtain⟨its,rv,p,_⟩:=I.list h.sql;exact .l p.isList ⟨_,hr,by simpa using rv⟩
 | @ref n hn=>
  subst r;simp only[shape] at e;cases q:st[n]? with
  |none=>rw[q] at e;cases e
  |some o=>
   rw[q] at e;have ho:=S.ob n o q;cases o with
   |lst xs=>
    cases e;obtain⟨vs,h1,J⟩:=ho;obtain⟨its,rv,p,_⟩:=I.list<|dG.of h1;exact .l p.isList ⟨_,J,by simpa using rv⟩
   |dct kvs=>
    cases e;obtain⟨ws,ho,dr⟩:=ho;obtain⟨hz,hS,vs,rv,o,es,ep,h1,J,h3,h4,Z,h6⟩:=(show bL X.prog X.w H s.heap (G n) (.dK ws) from I.hok _ _ ho);obtain⟨c1,c2,c3⟩:=J;obtain⟨cls,dd,data,sl⟩:=o;simp only at c1 c2 c3 h3;subst c1 c2 c3 h3;exact .d ⟨es,ep,h1⟩ hS λns e=>⟨_,zU (o:=default) h1 h4 Z h6 (by rw[<-tx rv,<-dr.keys];exact e),_,dr.vals,tw rv Z⟩
   |_=>cases e
 |_=>cases e;exact .sc rfl r
theorem all_cons{e:Nat->Bool}{x:Bool}:(range<|n+1).all (λj=>match j with|0=>x|j+1=>e j)=(x&&(range n).all e):=by rw[List.range_succ_eq_map,List.all_cons,List.all_map];rfl
def lH(I:Inv X pins W H s)(h:X.K.lookup a=some o):H a=none:=(I.bs a o<|I.ok.mod.kin a o h).2
def qN(I:Inv X pins W H s)(h:dY X.K H a xs)(h':dG X.K H a ys):False:=by obtain⟨_,_,p,_⟩:=I.tuple h;obtain⟨_,_,q,_⟩:=I.list h';exact ne_of_list_tuple q.isList p rfl
def nQ(I:Inv X pins W H s)(h:dY X.K H a xs):(∃zs,H a=some (.tup zs))\/(∃o u,(∀kvs,u≠ .dK kvs)/\H a=some (.frz o u))\/H a=none:=by
 rcases h with(h|⟨o,h⟩)|⟨o,_,_,h,_⟩
 .exact .inl ⟨_,h⟩
 .exact .inr<|.inl ⟨_,_,(λ_ z=>by cases z),h⟩
 .exact .inr<|.inr<|lH I h
def xt(I:Inv X pins W H s)(h:tZ X.K H a xs):(∃o u,(∀kvs,u≠ .dK kvs)/\H a=some (.frz o u))\/H a=none:=by
 rcases h with⟨o,h⟩|⟨o,_,_,h,_⟩
 .exact .inl ⟨_,_,(λ_ z=>by cases z),h⟩
 .exact .inr<|lH I h
def Sim.obj{K:aw}(S:Sim K H G st)(h:n<st.length):∃u,H (G n)=some u/\(∀xs,u≠ .tup xs)/\∀I w,(∀kvs,w≠ .dK kvs)->u≠ .frz I w:=
 (S.ob n st[n] (by simp)).there
mutual
theorem VRel.uniq(I:Inv X pins W H s)(S:Sim X.K H G st):∀{d d':D}{v:V},VRel X.K H G st.length d v->VRel X.K H G st.length d' v->d=d'
 |_,_,_,.non,h=>by cases h;rfl
 |_,_,_,.bl b,h=>by cases h;rfl
 |_,_,_,.int i,h=>by cases h;rfl
 |_,_,_,.str x,h=>by cases h;rfl
 |_,_,_,.tup h r,h'=>by
  cases h' with
  |tup q r'=>rw[I.tuple_inj h q] at r;rw[VRels.uniq I S r r']
  |fl q _=>exact(qN I h q.sql).elim
  |ref q=>
   obtain⟨u,e',n1,n2⟩:=S.obj q;rcases nQ I h with⟨_,e⟩|⟨_,_,hk,e⟩|e<;>rw[e] at e'<;>first|(cases e';done)|(cases e';exact absurd rfl<|n1 _)|(cases e';exact absurd rfl<|n2 _ _ hk)
 |_,_,_,.fl h r,h'=>by
  cases h' with
  |tup q _=>exact(qN I q h.sql).elim
  |fl q r'=>rw[I.list_inj h.sql q.sql] at r;rw[VRels.uniq I S r r']
  |ref q=>
   obtain⟨u,e',n1,n2⟩:=S.obj q;rcases xt I h with⟨_,_,hk,e⟩|e<;>rw[e] at e'<;>first|(cases e';done)|(cases e';exact absurd rfl<|n1 _)|(cases e';exact absurd rfl<|n2 _ _ hk)
 |_,_,_,.ref (n:=n) q,h'=>by
  generalize hz:V.ref (G n)=z at h';cases h' with
  |tup h _=>
   injection hz with hz;rw[<-hz] at h;obtain⟨u,e',n1,n2⟩:=S.obj q;rcases nQ I h with⟨_,e⟩|⟨_,_,hk,e⟩|e<;>rw[e] at e'<;>first|(cases e';done)|(cases e';exact absurd rfl<|n1 _)|(cases e';exact absurd rfl<|n2 _ _ hk)
  |fl h _=>
   injection hz with hz;rw[<-hz] at h;obtain⟨u,e',n1,n2⟩:=S.obj q;rcases xt I h with⟨_,_,hk,e⟩|e<;>rw[e] at e'<;>first|(cases e';done)|(cases e';exact absurd rfl<|n1 _)|(cases e';exact absurd rfl<|n2 _ _ hk)
  |ref q'=>injection hz with hz;rw[S.inj _ _ q q' hz]
  |_=>cases hz
theorem VRels.uniq(I:Inv X pins W H s)(S:Sim X.K H G st):∀{ds J:List D}{vs:List V},VRels X.K H G st.length ds vs->VRels X.K H G st.length J vs->ds=J
 |_,_,_,.nil,h=>by cases h;rfl
 |_,_,_,.cons r t,h=>by
  cases h with
  |cons r' t'=>rw[VRel.uniq I S r r',VRels.uniq I S t t']
end
theorem At.uniq{a b:D}(I:Inv X pins W H s)(S:Sim X.K H G st)(Z:At X.K H G st.length a u)(Y:At X.K H G st.length b u):a=b:=by obtain⟨v,h1,J⟩:=Z;obtain⟨w,h2,h⟩:=Y;rw[J.inj h] at h1;exact h1.uniq I S h2
def xx{v:V}(h:cT v=true):rP v v=true:=by cases v<;>simp_all [rP,cT]
def qL{v:V}(h:shape st d=some (.sc v)):cT v=true:=by
 cases d with
 |ref n=>simp only[shape] at h;split at h<;>cases h
 |_=>cases h<;>rfl
theorem fY{f:D->D->Option Bool}(h:∀x k,f x x=some k->k=true):∀{xs:List D}{k:Bool},fm f xs xs=some k->k=true
 |[],k,e=>(ak e).symm
 |x::xs,k,e=>by
  unfold fm at e;cases e1:f x x with
  |none=>simp_all
  |some p=>
   cases e2:fm f xs xs with
   |none=>simp_all
   |some q=>rw[e1,e2] at e;have e':=ak e;rw[<-e',h _ _ e1,fY h e2];rfl
def lI{f:D->D->Option Bool}(h:∀x k,f x x=some k->k=true){x:D}{k:Bool}(e:rq f x x=some k):k=true:=by
 unfold rq at e;split at e
 .simp_all
 .exact h _ _ e
theorem i_{st:aV}:∀(n:Nat){a:D}{k:Bool},dX n st a a=some k->k=true
 |0,_,_,e=>by trivial
 |n+1,a,k,e=>by
  unfold dX at e;cases ea:shape st a with
  |none=>rw[ea] at e;simp at e
  |some sa=>
   rw[ea] at e;cases sa with
   |sc v=>have e':rP v v=k:=ak e;rw[<-e',xx<|qL ea]
   |d kvs=>obtain⟨_,e⟩:=eG e;exact fY (λ_ _=>lI λ_ _=>i_ n) e
   |_=>exact fY (λ_ _=>lI λ_ _=>i_ n) e
def tJ(h:RelV y u)(I:cT y=true):(u==Value.ref l)=false:=by
 cases y with
 |non=>subst h;rfl
 |bl b=>subst h;rfl
 |int i=>obtain⟨t,rfl⟩:=h;rfl
 |str i=>obtain⟨t,rfl⟩:=h;rfl
 |_=>cases I
def sU(h:RelV y u)(I:cT y=true):(Value.ref l==u)=false:=by
 cases y with
 |non=>subst h;rfl
 |bl b=>subst h;rfl
 |int i=>obtain⟨t,rfl⟩:=h;rfl
 |str i=>obtain⟨t,rfl⟩:=h;rfl
 |_=>cases I
theorem tO{X:Cx}{pins:List (Addr×Obj)}{W:L2.St}{H:Hp}{s:Shared}{G:Nat->Addr}{st:aV}(I:Inv X pins W H s)(S:Sim X.K H G st){n:Nat}
  (Z:∀{a b:D}{u v:Value}{A:Around}{k:Bool},rq (dX n st) a b=some k->At X.K H G st.length a u->At X.K H G st.length b v->A.units+n<cLine->EqAt A s u v k):
  ∀{xs ys:List D}{us vs:List Value}{A:Around}{k:Bool},fm (rq<|dX n st) xs ys=some k->ye X.K H G st.length xs us->ye X.K H G st.length ys vs->A.units+n<cLine->
  ∃e:Nat->Bool,(∀j (h1:j<us.length)(J:j<vs.length),EqAt A s us[j] vs[j]<|e j)/\k=((range<|min us.length vs.length).all e&&us.length==vs.length)
 |xs,ys,us,vs,A,k,e,ha,hb,hu=>by
  have Y:=ha.length;have h:=hb.length;unfold fm at e;cases xs with
  |nil=>
   cases us with
   |cons _ _=>simp at Y
   |nil=>
    refine⟨λ_=>true,λj h1 _=>absurd h1<|not_lt_zero _,?_⟩;cases ys with
    |nil=>
     cases vs with
     |cons _ _=>simp at h
     |nil=>rw[<-ak e];rfl
    |cons y ys=>
     cases vs with
     |nil=>simp at h
     |cons _ _=>rw[<-ak e];simp
  |cons x xs=>
   cases us with
   |nil=>simp at Y
   |cons u us=>
    cases ys with
    |nil=>
     cases vs with
     |cons _ _=>simp at h
     |nil=>exact⟨λ_=>true,λj _ J=>absurd J<|not_lt_zero _,by rw[<-ak e];simp⟩
    |cons y ys=>
     cases vs with
     |nil=>simp at h
     |cons v vs=>
      obtain⟨_,r1,q1⟩:=ha;obtain⟨_,r2,q2⟩:=hb;cases q1 with
      |cons w1 w2=>
       cases q2 with
       |cons z1 z2=>
        cases r1 with
        |cons m1 m2=>
         cases r2 with
         |cons n1 n2=>
          simp only at e;cases e1:rq (dX n st) x y with
          |none=>rw[e1] at e;simp at e
          |some p=>
           cases e2:fm (rq<|dX n st) xs ys with
           |none=>rw[e1,e2] at e;simp at e
           |some q=>
            rw[e1,e2] at e;have hE:=Z (A:=A) e1 ⟨_,m1,w1⟩ ⟨_,n1,z1⟩ hu;obtain⟨f,hf,hk⟩:=tO I S Z (A:=A) e2 ⟨_,m2,w2⟩ ⟨_,n2,z2⟩ hu;refine⟨λj=>match j with|0=>p|j+1=>f j,λj h1 J=>?_,?_⟩
            .cases j with
             |zero=>exact hE
             |succ j=>exact hf j (by simpa using h1) (by simpa using J)
            .have e3:min (u::us).length (v::vs).length=min us.length vs.length+1:=by simp only[length_cons];lia
             have e4:((u::us).length==(v::vs).length)=(us.length==vs.length):=by simp
             rw[e3,e4,all_cons,<-ak e,hk,Bool.and_assoc]
def zL{f:D->D->Option Bool}{a b:D}{k:Bool}(h:f a b=some k->EqAt A s u v k)(e:rq f a b=some k)(pa:At X.K H G st.length a u)(Z:At X.K H G st.length b v):EqAt A s u v k:=by
 unfold rq at e;split at e
 .split at e
  .rename_i I;subst I;obtain⟨y,q1,Y⟩:=pa;obtain⟨z,q2,J⟩:=Z;cases q1;cases q2;subst Y;subst J;rw[<-ak e];exact EqAt.same _
  .exact h e
 .exact h e
theorem jG{X:Cx}{pins:List (Addr×Obj)}{W:L2.St}{H:Hp}{s:Shared}{G:Nat->Addr}{st:aV}(I:Inv X pins W H s)(S:Sim X.K H G st):∀(n:Nat){a b:D}{u v:Value}{A:Around}{k:Bool},dX n st a b=some k->At X.K H G st.length a u->At X.K H G st.length b v->A.units+n<cLine->
  RcAt A s u v k/\RcNeAt A s u v (!k)/\EqAt A s u v k
 |0,_,_,_,_,_,_,e,_,_,_=>by unfold dX at e;cases e
 |n+1,a,b,u,v,A,k,e,pa,pb,hu=>by
  have h:A.units<cLine:=by lia
  have hu1:A.in1.units+n<cLine:=by show A.units+1+n<cLine;lia
  have e0:=e;unfold dX at e;cases ea:shape st a with
  |none=>rw[ea] at e;simp at e
  |some sa=>
   cases eb:shape st b with
   |none=>rw[ea,eb] at e;simp at e
   |some sb=>
    rw[ea,eb] at e;have ua:=pv I S pa ea;have ub:=pv I S pb eb
    have refs:∀{l l':Addr},u=.ref l->v=.ref l'->RcAt A s u v k->RcNeAt A s u v (!k)->RcAt A s u v k/\RcNeAt A s u v (!k)/\EqAt A s u v k:=λ{l l'} h1 h2 h3 h4=>by
     refine⟨h3,h4,?_⟩;by_cases hl:l=l'
     .have huv:u=v:=by rw[h1,h2,hl]
      subst huv;have:=pa.uniq I S pb;subst this;rw[i_ _ e0];exact EqAt.same _
     .subst h1 h2;exact EqAt.of_refs hl h3
    have seqs:∀{xs ys:List D}{us vs:List Value},fm (rq<|dX n st) xs ys=some k->ye X.K H G st.length xs us->ye X.K H G st.length ys vs->
      ∃e:Nat->Bool,(∀j (h1:j<us.length)(h2:j<vs.length),EqAt A.in1 s us[j] vs[j]<|e j)/\k=((range<|min us.length vs.length).all e&&us.length==vs.length):=λq Y J=>tO I S (λa b c d=>zL (X:=X) (H:=H) (G:=G) (st:=st) (λa=>(jG I S n a b c d).2.2) a b c) q Y J hu1
    cases ua with
    |sc fa Y=>
     cases ub with
     |sc fb J=>cases e;exact⟨CI Y J fa fb,xU Y J fa fb,Cp Y J fa fb⟩
     |t hb _=>cases e;exact⟨j5 hb h Y fa,mI hb h Y fa,nG (tJ Y fa)<|j5 hb h Y fa⟩
     |l hb _=>cases e;exact⟨md hb h Y fa,oX hb h Y fa,nG (tJ Y fa)<|md hb h Y fa⟩
     |d hb _ _=>cases e
    | @t a1 xs its ha Y=>
     cases ub with
     |sc fb J=>cases e;exact⟨j4 ha h J fb,mH ha h J fb,nH (sU J fb)<|j4 ha h J fb⟩
     | @t b1 ys its2 hb J=>
      obtain⟨f,hf,hk⟩:=seqs e Y J
      have Z:∀j (h1:j<its.size)(h2:j<its2.size),EqAt A.in1 s its[j] its2[j] (f j):=λj h1 h2=>by
       have q:=hf j (by simpa using h1) (by simpa using h2)
       rw[getElem_toList,getElem_toList] at q;exact q
      have q1:=RcAt.tuples ha hb h Z;have q2:=RcNeAt.tuples ha hb h Z;have ek:((range<|min its.size its2.size).all f&&its.size==its2.size)=k:=by rw[hk];simp
      rw[ek] at q1 q2;exact refs rfl rfl q1 q2
     |l hb _=>cases e;exact refs rfl rfl (RcAt.tuple_list ha hb h)<|RcNeAt.tuple_list ha hb h
     |d hb _ _=>cases e
    | @l a1 xs its ha Y=>
     cases ub with
     |sc fb J=>cases e;exact⟨ma ha h J fb,oW ha h J fb,nH (sU J fb)<|ma ha h J fb⟩
     |t hb _=>cases e;exact refs rfl rfl (RcAt.list_tuple ha hb h)<|RcNeAt.list_tuple ha hb h
     | @l b1 ys its2 hb J=>
      obtain⟨f,hf,hk⟩:=seqs e Y J
      have Z:∀j (h1:j<its.size)(h2:j<its2.size),EqAt A.in1 s its[j] its2[j] (f j):=λj h1 h2=>by
       have q:=hf j (by simpa using h1) (by simpa using h2)
       rw[getElem_toList,getElem_toList] at q;exact q
      by_cases hsz:its.size=its2.size
      .have q1:=RcAt.lists ha hb hsz h Z;have q2:=RcNeAt.lists ha hb hsz h Z;have ek:(range its.size).all f=k:=by rw[hk];simp[hsz]
       rw[ek] at q1 q2;exact refs rfl rfl q1 q2
      .have ek:k=false:=by rw[hk];simp[hsz]
       subst ek;exact refs rfl rfl (RcAt.lists_lengths ha hb (by simpa using hsz) h)<|RcNeAt.lists_lengths ha hb (by simpa using hsz) h
     |d hb _ _=>cases e
    |d ha za Y=>
     cases ub with
     |l hb _=>cases e;exact refs rfl rfl (RcAt.dict_list ha hb h)<|RcNeAt.dict_list ha hb h
     |d hb zb J=>
      obtain⟨⟨k1,k2⟩,e⟩:=eG e;obtain⟨ns,en⟩:=pR k2;obtain⟨us,d1,a1⟩:=Y ns en;obtain⟨vs,d2,a2⟩:=J ns (by rw[<-k1];exact en)
      obtain⟨f,hf,hk⟩:=seqs e a1 a2
      have l1:us.length=vs.length:=by
       have q1:=a1.length;have q2:=a2.length;have q3:=congrArg List.length k1;simp at q1 q2 q3
       lia
      obtain⟨q1,q2⟩:=RcAt.dicts za zb d1 d2 h hf;have ek:(range us.length).all f=k:=by rw[hk];simp[l1]
      rw[ek] at q1 q2;exact refs rfl rfl q1 q2
     |_=>cases e
end Ev
namespace PySem
variable{h h':Heap}{Q:Option Value->Shared->Prop}
def Heap.RawD(h:Heap)(d:Addr)(es:Array DictEntry)(ep:Nat):Prop:=∃o,h.get? d=some o/\o.ExactDict/\o.data=.dict es ep
section
variable{prog:Program}{w:World}{A:Around}{E:Value->Shared->Prop}{s:Shared}{d it v:Addr}{es:Array DictEntry}{i ep:Nat}
def Heap.RawD.ty(x:s.heap.RawD d es ep):s.TypeIs (.ref d) "dict":=let⟨o,ho,hc,_⟩:=x;⟨o,ho,hc.1⟩
def Heap.RawD.at(x:h.RawD d es ep)(e:∀o,h.get? d=some o->h'.get? d=some o):h'.RawD d es ep:=let⟨o,ho,r⟩:=x;⟨o,e _ ho,r⟩
def wm{Q:Value->Shared->Prop}(hd:(d==sysModules)=false)(x:s.heap.RawD d es ep)
  (J:Q (.ref s.heap.objs.size) {s with heap:=s.heap.push {cls:= .type "dict_keyiterator",data:= .fields #[.ref d,.int 0 0,.int es.size 0,.int ep 0]}}):wpAny (model prog w) A (pyIter<|.ref d) Q E s:=by
 obtain⟨o,ho,Y,h⟩:=id x;have I:=x.ty;refine wpAny_pyIter_slot I F.slot_dict_iter<|wpAny_call_entry F.slot_dict_iter I F.entry_dict_iter ?_<|F.args_dict_iter_1 _;refine aa<|aa<|wpAny_notOrdered_dict I<|ae ?_;show wpAny _ _ (Builtin.Dict.showsAll d>>=_) _ _ s;unfold Builtin.Dict.showsAll;rw[if_neg (by rw[hd];decide)]
 refine aa<|ae<|aa<|wpAny_dictEntries ho h<|aa<|wpAny_dictEpoch ho h<|aa<|wpAny_newObj_type<|ae ⟨_,rfl,"dict_keyiterator",_,⟨_,aj _ rfl,rfl⟩,F.slot_dict_keyiterator_next.lookup,?_⟩;simpa[rawInt] using J
def Heap.RawIt(h:Heap)(T:String)(it d:Addr)(i n ep:Nat):Prop:=∃o,h.get? it=some o/\o.cls=.type T/\o.data=.fields #[.ref d,.int i 0,.int n 0,.int ep 0]
def Heap.RawIt.ty{T:String}{n:Nat}(x:s.heap.RawIt T it d i n ep):s.TypeIs (.ref it) T:=let⟨o,ho,hc,_⟩:=x;⟨o,ho,hc⟩
def Heap.RawIt.at{T:String}{n:Nat}(x:h.RawIt T it d i n ep)(e:∀o,h.get? it=some o->h'.get? it=some o):h'.RawIt T it d i n ep:=let⟨o,ho,r⟩:=x;⟨o,e _ ho,r⟩
def Heap.RawIt.moved{T:String}{n:Nat}(ho:h.get? it=some o)(I:o.cls=.type T)(hd:o.data=.fields #[.ref d,.int i 0,.int n 0,.int ep 0]):
  (h.update it<|Obj.mapFields (·.setIfInBounds 1 (rawInt<|(i:Int)+1))).RawIt T it d (i+1) n ep:=
 ⟨_,Heap.get?_update_self _ ho<|Obj.isFreed_of_fields<|Obj.data_mapFields hd _,(Obj.cls_mapFields ..).trans I,by rw[Obj.data_mapFields hd];rfl⟩
def jP(J:A.handled=none)(I:Heap.ExtBut it s.heap h')(Y:∀h',Heap.ExtBut it s.heap h'->Q none {s with heap:=h'}):
  wpAny (model prog w) A.in1 (newExc (.type "StopIteration") []>>=λe=>raiseNew (α:=Fin) e) (λh s'=>∃v,h=.done (.ret v)/\wpAny (model prog w) A (pure<|some v) Q E s')
   (λe s'=>wpAny (model prog w) A (isInstance e (.type "StopIteration")>>=λb=>if b=true then pure none else throw e) Q E s') {s with heap:=h'}:=by
 refine aa ?_;simp only[newExc,newTuple];refine aa<|wpAny_newObj_type (aa (m:=firstArgMember _ _)<|wpAny_of_eq (a:=Value.none) (by first|rfl|(simp only[firstArgMember];rfl))<|wpAny_newObj_type ?_ (by size_fits)) (by size_fits)
 simp only[raiseNew];refine aa<|wpAny_handled ?_;rw[show A.in1.handled=none from J];refine aa<|ae<|wpAny_throw ?_;refine aa<|wpAny_isInstance (T:= "StopIteration") (b:=true) ⟨_,aj _ rfl,rfl⟩ isSubtype_stop<|ae<|Y _<|(I.push _).push _
def wY(I:s.heap.RawIt "dict_keyiterator" it d i es.size ep)(x:s.heap.RawD d es ep)(hi:i<es.size)
  (hQ:∀h',h'.RawIt "dict_keyiterator" it d (i+1) es.size ep->Heap.SameBut it s.heap h'->Q (some es[i].key) {s with heap:=h'}):wpAny (model prog w) A (pyNext<|.ref it) Q E s:=by
 obtain⟨o,ho,hc,hd⟩:=id I;obtain⟨od,h,_,J⟩:=id x;have Y:=I.ty;have Z:=Heap.RawIt.moved ho hc hd;unfold pyNext;refine aa<|wpAny_attempt<|wpAny_callSpecial?_slot (name:=Str.ofString "__next__") Y F.slot_dict_keyiterator_next<|wpAny_call_entry F.slot_dict_keyiterator_next Y F.entry_dict_keyiterator_next ?_<|F.args_dict_keyiterator_next_1 _;refine aa<|ae<|aa<|aa<|aa<|wpAny_typeNameOfWhole_keyiter Y<|ae<|aa<|wpAny_fieldsOf ho hd ?_;rw[show Builtin.Dict_items.ownsTuple "dict_keyiterator"=false from by decide]
 show wpAny _ _ (if(Value.ref d==Value.none)=true then _ else _) _ _ s
 rw[if_neg (by simp)]
 refine aa<|ae<|aa<|wpAny_dictEntries h J ?_;rw[if_neg (by simp)]
 refine aa<|ae<|aa<|wpAny_dictEpoch h J ?_;rw[if_neg (by simp)]
 refine ae ?_;simp only[show ¬((i:Int)<0) from by lia,if_false,toNat_natCast,Array.getElem?_eq_getElem hi]
 refine aa<|aa<|wpAny_typeNameOfWhole_keyiter Y<|ae<|aa<|wpAny_isOneOf_keyiter Y ?_;show wpAny _ _ (setField (.ref it) 1 (rawInt<|(i:Int)+1)>>=_) _ _ s;refine aa<|wpAny_setField ho hd (by simp)<|aa<|wpAny_holding<|aa<|wpAny_isOneOf_keyiter (Heap.RawIt.ty (s:={s with heap:=_}) Z) ?_
 exact ae<|ae ⟨_,rfl,ae<|hQ _ Z<|Heap.SameBut.update ..⟩
def zt(Z:A.handled=none)(I:s.heap.RawIt "dict_keyiterator" it d i es.size ep)(x:s.heap.RawD d es ep)(hi:es.size<=i)
  (hQ:∀h',Heap.ExtBut it s.heap h'->Q none {s with heap:=h'}):wpAny (model prog w) A (pyNext<|.ref it) Q E s:=by
 obtain⟨o,ho,hc,hd⟩:=id I;obtain⟨od,h,_,J⟩:=id x;have Y:=I.ty;unfold pyNext;refine aa<|wpAny_attempt<|wpAny_callSpecial?_slot (name:=Str.ofString "__next__") Y F.slot_dict_keyiterator_next<|wpAny_call_entry F.slot_dict_keyiterator_next Y F.entry_dict_keyiterator_next ?_<|F.args_dict_keyiterator_next_1 _;refine aa<|ae<|aa<|aa<|aa<|wpAny_typeNameOfWhole_keyiter Y<|ae<|aa<|wpAny_fieldsOf ho hd ?_;rw[show Builtin.Dict_items.ownsTuple "dict_keyiterator"=false from by decide]
 show wpAny _ _ (if(Value.ref d==Value.none)=true then _ else _) _ _ s
 rw[if_neg (by simp)]
 refine aa<|ae<|aa<|wpAny_dictEntries h J ?_;rw[if_neg (by simp)]
 refine aa<|ae<|aa<|wpAny_dictEpoch h J ?_;rw[if_neg (by simp)]
 refine ae ?_;simp only[show ¬((i:Int)<0) from by omega,if_false,toNat_natCast,Array.getElem?_eq_none hi]
 refine aa<|aa<|wpAny_typeNameOfWhole_keyiter Y<|ae ?_;show wpAny _ _ (setField (.ref it) 0 .none>>=_) _ _ s;exact aa<|wpAny_setField ho hd (by simp)<|jP Z (Heap.SameBut.update ..).extBut hQ
def qT{Q:Value->Shared->Prop}(hd:(d==sysModules)=false)(x:s.heap.RawD d es ep)(I:Q (.ref s.heap.objs.size) {s with heap:=s.heap.push {cls:= .type "dict_values",data:= .fields #[.ref d]}}):
  wpAny (model prog w) A (call (.builtin "dict.values") [.ref d]) Q E s:=by
 have h:=x.ty;refine wpAny_call_entry F.slot_dict_values h F.entry_dict_values ?_<|F.args_dict_values_1 _;refine aa ?_;refine aa<|wpAny_notOrdered_dict h<|ae ?_;unfold Builtin.Dict.showsAll;rw[if_neg (by simp_all)]
 exact aa<|ae<|aa<|wpAny_newObj_type<|ae ⟨_,rfl,I⟩
def uf{Q:Value->Shared->Prop}(I:s.heap.IsValuesView v d)(x:s.heap.RawD d es ep)
  (Z:Q (.ref s.heap.objs.size) {s with heap:=s.heap.push {cls:= .type "dict_valueiterator",data:= .fields #[.ref d,.int 0 0,.int es.size 0,.int ep 0]}}):wpAny (model prog w) A (pyIter<|.ref v) Q E s:=by
 obtain⟨ov,J,_,Y⟩:=id I;obtain⟨o,ho,_,h⟩:=id x;refine wpAny_pyIter_slot I.typeIs F.slot_dict_values_iter<|wpAny_call_entry F.slot_dict_values_iter I.typeIs F.entry_dict_values_iter ?_<|F.args_dict_values_iter_1 _;refine aa<|ae<|aa<|aa<|bc J Y (x:= .ref d) rfl<|ae<|aa<|aa<|wpAny_dictEntries ho h<|aa<|wpAny_dictEpoch ho h ?_;simp only[show Builtin.Dict_items.ownsTuple "dict_valueiterator"=false from by decide,false_eq_true,if_false]
 refine wpAny_newObj_type<|ae ⟨_,rfl,"dict_valueiterator",_,⟨_,aj _ rfl,rfl⟩,F.slot_dict_valueiterator_next.lookup,?_⟩;simpa[rawInt] using Z
def vD(I:s.heap.RawIt "dict_valueiterator" it d i es.size ep)(x:s.heap.RawD d es ep)(hi:i<es.size)
  (hQ:∀h',h'.RawIt "dict_valueiterator" it d (i+1) es.size ep->Heap.SameBut it s.heap h'->Q (some es[i].val) {s with heap:=h'}):wpAny (model prog w) A (pyNext<|.ref it) Q E s:=by
 obtain⟨o,ho,hc,hd⟩:=id I;obtain⟨od,h,_,J⟩:=id x;have Y:=I.ty;have Z:=Heap.RawIt.moved ho hc hd;unfold pyNext;refine aa<|wpAny_attempt<|wpAny_callSpecial?_slot (name:=Str.ofString "__next__") Y F.slot_dict_valueiterator_next<|wpAny_call_entry F.slot_dict_valueiterator_next Y F.entry_dict_valueiterator_next ?_<|F.args_dict_valueiterator_next_1 _;refine aa<|ae<|aa<|aa<|aa<|wpAny_typeNameOfWhole_valiter Y<|ae<|aa<|wpAny_fieldsOf ho hd ?_;rw[show Builtin.Dict_items.ownsTuple "dict_valueiterator"=false from by decide]
 show wpAny _ _ (if(Value.ref d==Value.none)=true then _ else _) _ _ s
 rw[if_neg (by simp)]
 refine aa<|ae<|aa<|wpAny_dictEntries h J ?_;rw[if_neg (by simp)]
 refine aa<|ae<|aa<|wpAny_dictEpoch h J ?_;rw[if_neg (by simp)]
 refine ae ?_;simp only[show ¬((i:Int)<0) from by omega,if_false,toNat_natCast,Array.getElem?_eq_getElem hi]
 refine aa<|aa<|wpAny_typeNameOfWhole_valiter Y<|ae<|aa<|wpAny_isOneOf_valiter Y ?_;show wpAny _ _ (setField (.ref it) 1 (rawInt<|(i:Int)+1)>>=_) _ _ s;refine aa<|wpAny_setField ho hd (by simp)<|aa<|wpAny_holding<|aa<|wpAny_isOneOf_valiter (Heap.RawIt.ty (s:={s with heap:=_}) Z) ?_
 refine aa<|wpAny_isOneOf_valiter (Heap.RawIt.ty (s:={s with heap:=_}) Z) ?_;exact ae<|ae ⟨_,rfl,ae<|hQ _ Z<|Heap.SameBut.update ..⟩
def yn(Z:A.handled=none)(I:s.heap.RawIt "dict_valueiterator" it d i es.size ep)(x:s.heap.RawD d es ep)(hi:es.size<=i)
  (hQ:∀h',Heap.ExtBut it s.heap h'->Q none {s with heap:=h'}):wpAny (model prog w) A (pyNext<|.ref it) Q E s:=by
 obtain⟨o,ho,hc,hd⟩:=id I;obtain⟨od,h,_,J⟩:=id x;have Y:=I.ty;unfold pyNext;refine aa<|wpAny_attempt<|wpAny_callSpecial?_slot (name:=Str.ofString "__next__") Y F.slot_dict_valueiterator_next<|wpAny_call_entry F.slot_dict_valueiterator_next Y F.entry_dict_valueiterator_next ?_<|F.args_dict_valueiterator_next_1 _;refine aa<|ae<|aa<|aa<|aa<|wpAny_typeNameOfWhole_valiter Y<|ae<|aa<|wpAny_fieldsOf ho hd ?_;rw[show Builtin.Dict_items.ownsTuple "dict_valueiterator"=false from by decide]
 show wpAny _ _ (if(Value.ref d==Value.none)=true then _ else _) _ _ s
 rw[if_neg (by simp)]
 refine aa<|ae<|aa<|wpAny_dictEntries h J ?_;rw[if_neg (by simp)]
 refine aa<|ae<|aa<|wpAny_dictEpoch h J ?_;rw[if_neg (by simp)]
 refine ae ?_;simp only[show ¬((i:Int)<0) from by omega,if_false,toNat_natCast,Array.getElem?_eq_none hi]
 refine aa<|aa<|wpAny_typeNameOfWhole_valiter Y<|ae ?_;show wpAny _ _ (setField (.ref it) 0 .none>>=_) _ _ s;exact aa<|wpAny_setField ho hd (by simp)<|jP Z (Heap.SameBut.update ..).extBut hQ
end
section
end
end PySem
namespace Tab23
noncomputable def add(s:List Int×SetTable)(h:Int):Option (List Int×SetTable):=if s.1.contains h then some s else match s.2.freeSlot h with
 |some (j,wd)=>if wd then none else
  let r:=s.2.put j
  if r.1.fits (s.1.length+1)&& !r.1.tooFull then some (s.1.take r.2++h::s.1.drop r.2,r.1) else none
 |none=>none
noncomputable def all:Nat->List (List Int)
 |0=>[[]]
 |n+1=>(all n)++((all n).filter λl=>l.length==n).flatMap λl=>(range 10).map λ(i:Nat)=>(i:Int)::l
end Tab23
namespace PySem
open PyProof.Rows (IntsAre)
section
end
section
end
end PySem
namespace PySem.W
open PySem.Calls
section
end
end PySem.W
namespace Tab23
end Tab23
namespace PySem.W
open PySem.Calls Tab23
section
end
open PySem.Calls
def wg{n i:Nat}(h:i<n):(toArray<|range n).getD i 0=i:=by simp[getD,h]
theorem xS{cmp:Nat->Nat->(Bool->Shared->Prop)->Shared->Prop}{n:Nat}{Q:Nat->Shared->Prop}(I:∀i C,i+1<n->C false s->cmp (i+1) i C s)(h:Q n s):
  ∀f k,1<=k->k+f=n->(kas_asc (toArray<|range n) f k).kasWp cmp Q s
 |0,k,_,e=>by
  have:k=n:=by omega
  subst this;exact h
 |f+1,k,h1,e=>by
  obtain⟨j,rfl⟩:∃j,k=j+1:=⟨k - 1,by lia⟩
  show cmp _ _ (λb s'=>(if b=true then KasT.ret (j+1) else kas_asc _ f<|j+1+1).kasWp cmp Q s') s
  rw[wg (by omega),Nat.add_sub_cancel,wg (by lia)]
  refine I j _ (by omega) ?_
  rw[if_neg (by decide)]
  exact xS I h f (j+2) (by lia) (by lia)
def yx{cmp:Nat->Nat->(Bool->Shared->Prop)->Shared->Prop}{n:Nat}{Q:Array Nat->Shared->Prop}(h1:1<=n)(I:∀i C,i+1<n->C false s->cmp (i+1) i C s)(h:Q (toArray<|range n) s):(kas_sort n).kasWp cmp Q s:=by
 unfold kas_sort;rw[KasT.kasWp_bind];unfold kas_count;rw[KasT.kasWp_bind];refine xS I ?_ _ 1 (af _) (by lia)
 rw[if_pos (by simp)]
 show(if n<n then _ else KasT.ret _:KasT _).kasWp cmp Q s
 rw[if_neg<|bj _];exact h
section
variable{prog:Program}{w:World}{A:Around}{E:Value->Shared->Prop}{s:Shared}
def oneLt_int{i j:Int}{t u:Tok}{Q:Bool->Shared->Prop}(h:Q (decide<|i<j) s):wpAny (model prog w) A (oneLt' true (.int i t)<|.int j u) Q E s:=kat_lt_int h
def wU{a:Addr}{vs:List Value}{n:Nat}{ks:List (Int×Tok×Value)}{P:PySem.Fin->Shared->Prop}(ho:s.heap.get? a=some (seqObj "list" vs.toArray n))(h64:vs.length<64)(hl:vs.length=ks.length)
  (hv:∀(j:Nat)(v:Value)(k:Int×Tok×Value),vs[j]? =some v->ks[j]? =some k->∃x o m,v=.ref x/\x≠a/\s.heap.get? x=some o/\o.cls=.type "tuple" /\o.data=.seq #[.int k.1 k.2.1,k.2.2] m)
  (up:ks.Pairwise λx y=>x.1<y.1)
  (h:∀h' c,(∀b o,b≠a->s.heap.get? b=some o->h'.get? b=some o)->h'.get? a=some (seqObj "list" vs.toArray c)->P (.done<|.ret .none) {s with heap:=h'}):
  wpAny (model prog w) A (Builtin.«list.sort» ⟨[.ref a],[]⟩) P E s:=by
 have ha:a<s.heap.objs.size:=ai ho;rw[list_sort_plain];refine aa<|listItems_at ho rfl ?_;refine aa<|listUpdate_at ho rfl ?_ (by rw[size_toArray,sizeLine_eq];omega)<|zero_le _
 obtain⟨e1,Z⟩:∃e1,(s.heap.update a<|Obj.mapSeq λ_=> #[]).get? a=some (seqObj "list" #[] e1):=⟨_,get?_update_seq ho<|λ_=> #[]⟩;refine aa<|seqEpoch_at Z rfl ?_;refine aa<|wpAny_newTuple ?_ (by show vs.length<=_;rw[sizeLine_eq];omega)
 refine aa<|wpAny_newList ?_<|zero_le _;refine wpAny_holding ?_;show wpAny (model prog w) A _ P E {s with heap:=((s.heap.update a<|Obj.mapSeq λ_=> #[]).push<|seqObj "tuple" vs.toArray 0).push (seqObj "list" #[] 0)};generalize hz:((s.heap.update a<|Obj.mapSeq λ_=> #[]).push<|seqObj "tuple" vs.toArray 0).push (seqObj "list" #[] 0)=hh
 have kept:∀b o,b≠a->s.heap.get? b=some o->hh.get? b=some o:=λb o hb e=>by
  rw[<-hz];exact ac _<|ac _ (by rw[Heap.get?_update_ne _ _ _ _ hb];exact e)
 have J:hh.get? a=some (seqObj "list" #[] e1):=by rw[<-hz];exact ac _<|ac _ Z
 dsimp only
 have fin:wpAny (model prog w) A (do
   Builtin.List.listUpdate (.ref a) λ_=>vs.toArray
   ret .none) P E {s with heap:=hh}:=by
  refine aa<|listUpdate_at J rfl ?_ (zero_le _) (by rw[size_toArray,sizeLine_eq];lia)
  refine ae<|h _ _ (λb o hb e=>?_)<|get?_update_seq J λ_=>vs.toArray;rw[Heap.get?_update_ne _ _ _ _ hb];exact kept b o hb e
 by_cases h2:vs.toArray.size<2
 .rw[if_pos h2,if_pos h2];refine aa<|ae ?_;rw[StateT.run_pure];refine aa<|ae ?_;dsimp only;refine aa (seqEpoch_at J rfl ?_)
  rw[show(arrOf<|SortSt.mk' general' (vs.toArray.zip vs.toArray) #[] 7 none).map (·.2)=vs.toArray from by show((vs.toArray.zip vs.toArray).map (·.2))=_;apply toList_inj.mp;rw[toList_map,Array.toList_zip];exact List.map_snd_zip<|af _]
  simp only[bne_self_eq_false,false_eq_true,if_false];exact fin
 .rw[if_neg h2,if_neg h2];rw[size_toArray] at h2;have h2':2<=vs.length:=by lia
  have tups:∀(Y:List Value)(I:List (Int×Tok×Value)),Y.length=I.length->(∀(j:Nat)(v:Value)(k:Int×Tok×Value),Y[j]? =some v->I[j]? =some k->∃x o m,v=.ref x/\x≠a/\s.heap.get? x=some o/\o.cls=.type "tuple" /\o.data=.seq #[.int k.1 k.2.1,k.2.2] m)->KatTups hh Y (I.map λk=>Value.int k.1 k.2.1):=by
   intro Y
   induction Y with
   |nil=>intro I e _;cases I with
    |nil=>exact KatTups.nil
    |cons=>simp at e
   |cons w0 Y ih=>intro I e hq;cases I with
    |nil=>simp at e
    |cons k I=>
     obtain⟨x,o,m,rfl,hx,ho,hc,hd⟩:=hq 0 w0 k rfl rfl;exact KatTups.cons (kept x o hx ho) hc hd rfl<|ih I (by simpa using e) λj v k' q1 q2=>hq (j+1) v k' (by simpa using q1) (by simpa using q2)
  refine aa<|kat_kind (T:= .type "int") (tups vs ks hl hv) (by rw[length_map];lia) (λv hv'=>?_) rfl ?_
  .obtain⟨k,_,rfl⟩:=mem_map.mp hv';exact Looks.now
  refine aa<|aO (kat_run (Q:=λst' s'=>s'={s with heap:=hh}/\(arrOf st').map (·.2)=vs.toArray/\failedOf st'=none) (G:=λp s'=>s'={s with heap:=hh}/\p=toArray (range vs.length)) rfl h2' h64 (λp st' s' a1 a2 a3 a4=>?_)<|yx (by lia) (λi C hi hC=>?_) ⟨rfl,rfl⟩) (λr s' hr=>?_) λ_ _ x=>x
  .obtain⟨rfl,rfl⟩:=a4;refine⟨rfl,?_,a3⟩;rw[kat_snds rfl a2];apply congrArg;apply List.ext_getElem?;intro j;rw[az];simp only[List.getElem?_range'];by_cases hj:j<vs.length
   .simp[hj]
   .simp[hj]
  .show wpAny (model prog w) A (keyLt' _ (vs.getD (i+1) Value.none)<|vs.getD i Value.none) C (λ_ _=>False) {s with heap:=hh};have i1:i<vs.length:=by lia
   have k0:ks[i]? =some (ks[i]'(by omega)):=by simp
   have k1:ks[i+1]? =some (ks[i+1]'(by omega)):=by simp
   obtain⟨x,o,m,e1',hx,hox,_,hd⟩:=hv i vs[i] _ (by simp) k0
   obtain⟨y,o2,m2,e2',hy,hoy,_,hd2⟩:=hv (i+1) (vs[i+1]'(by omega)) _ (by simp) k1
   rw[show vs.getD (i+1) Value.none=vs[i+1]'(by omega) by simp[hi],show vs.getD i Value.none=vs[i] by simp[i1],e1',e2']
   have hlt:=List.pairwise_iff_getElem.mp up i (i+1) (by lia) (by omega) (by lia)
   refine kat_lt (kept y o2 hy hoy) hd2 (kept x o hx hox) hd<|kat_cons<|wpAny_eqBool_int ?_;rw[show((ks[i+1]'(by omega)).1==(ks[i]'(by omega)).1)=false by simp;omega]
   refine kat_no<|oneLt_int ?_;rw[show decide ((ks[i+1]'(by omega)).1<(ks[i]'(by omega)).1)=false by simp;omega]
   exact hC
  .obtain⟨⟨⟩,st'⟩:=r;obtain⟨rfl,q1,q2⟩:=hr;dsimp only;refine aa<|seqEpoch_at J rfl ?_;dsimp only at q1 q2;rw[q1,q2];simp only[bne_self_eq_false,false_eq_true,if_false];exact fin
def nW{K:Type}[DecidableEq K]{knd:PySem.KeyKind prog w K}{r d:Addr}{kvs:List (K×Value)}{ep:Nat}{ns:List Int}{Q:Value->Shared->Prop}(hh:A.handled=none)(hv:s.heap.IsItemsView r d)(hm:s.heap.DictAt knd d kvs ep)(h64:kvs.length<64)
  (hk:∀(j:Nat)(k:K)(x key:Value),kvs[j]? =some (k,x)->knd.is k key=true->∃n t,ns[j]? =some n/\key=.int n t)(hn:ns.length=kvs.length)(up:ns.Pairwise (· < ·))
  (h:∀(h':Heap)(tk:Nat)(B:Addr)(c:Nat) (as:List Addr),(∀b o,s.heap.get? b=some o->h'.get? b=some o)->as.length=kvs.length->(∀b,b∈as->s.heap.get? b=none/\b≠B)->as.Nodup->s.heap.get? B=none->h'.get? B=some (seqObj "list" (as.map Value.ref).toArray c)->
   (∀(j:Nat)(a:Addr)(n:Int)(k:K)(x:Value),as[j]? =some a->ns[j]? =some n->kvs[j]? =some (k,x)->∃t,h'.get? a=some {cls:= .type "tuple",data:= .seq #[.int n t,x]})->Q (.ref B) {s with heap:=h',toks:=tk}):
  wpAny (model prog w) A (call (.builtin "sorted") [.ref r]) Q E s:=by
 refine call_function_entry kind_sorted plain_sorted entry_sorted (args_sorted1 _) ?_;unfold Builtin.«sorted»;refine aa (m:=checkCount "sorted" 1 1 _)<|ae ?_;refine aa<|kdx_collect (A:=A.in1) hh hv hm (by rw[sizeLine_eq];lia) λh' tk as J hl hG=>?_
 refine aa<|wpAny_newList ?_ (by rw[length_map,sizeLine_eq];lia)
 show wpAny _ _ _ _ _ {s with heap:=h'.push (seqObj "list" (as.map Value.ref).toArray 0),toks:=tk};have hB:(h'.push<|seqObj "list" (as.map Value.ref).toArray 0).get? h'.objs.size=some (seqObj "list" (as.map Value.ref).toArray 0):=aj _ rfl
 have Z:s.heap.get? h'.objs.size=none:=by
  cases e:s.heap.get? h'.objs.size with
  |none=>rfl
  |some o=>exact absurd (ai<|J _ _ e)<|bj _
 have pr:∀j (I:j<kvs.length),∃t,h'.get? (as[j]'(by omega))=some {cls:= .type "tuple",data:= .seq #[.int (ns[j]'(by lia)) t,(kvs[j]).2]}:=λj I=>by
  obtain⟨key,k,x,e1,e2,e3⟩:=hG.pairs j (as[j]'(by omega)) (by simp)
  obtain⟨n,t,e4,rfl⟩:=hk j k x key e1 e2;have e5:kvs[j]=(k,x):=by rw[aA I] at e1;exact ak e1
  have e6:ns[j]'(by omega)=n:=by rw[aA (by omega)] at e4;exact ak e4
  exact⟨t,by rw[e5,e6];exact e3⟩
 have nB:∀b,b∈as->b≠h'.objs.size:=λb hb=>al<|hG.there hb;refine aa<|wpAny_holding<|wpAny_call_entry slot_list_sort ⟨_,hB,rfl⟩ entry_list_sort (wU (ks:=(range kvs.length).map λj=>(ns.getD j 0,if I:j<kvs.length then Classical.choose (pr j I) else 0,(kvs[j]?.map (·.2)).getD .none)) hB (by rw[length_map];lia) (by simp;omega) (λj v k q1 q2=>?_) ?_ λh2 c Y hB2=>⟨_,rfl,?_⟩)<|args_list_sort _
 .rw[az] at q1 q2;cases q3:as[j]? with
  |none=>rw[q3] at q1;cases q1
  |some a=>
   rw[q3] at q1;cases q1;have I:j<kvs.length:=by rw[<-hl];exact(au q3).1
   rw[List.getElem?_range I] at q2;cases q2;have hc:=Classical.choose_spec<|pr j I;have ea:as[j]'(by omega)=a:=by rw[aA (by omega)] at q3;exact ak q3
   subst ea;refine⟨_,_,0,rfl,nB _<|ah q3,ac _ hc,rfl,?_⟩;simp[I,hn]
 .rw[List.pairwise_map];refine Pairwise.imp_of_mem (R:=(· < ·)) (λ{i j} hi I hij=>?_) List.pairwise_lt_range;have hi:=mem_range.mp hi;have I:=mem_range.mp I;have:=List.pairwise_iff_getElem.mp up i j (by lia) (by lia) hij
  simpa[hn,hi,I] using this
 .refine ae ⟨_,rfl,h h2 tk h'.objs.size c as (λb o e=>Y b o (λz=>?_)<|ac _<|J b o e) hl (λb hb=>⟨Heap.get?_none_of_le<|le_of_lt<|hG.above b hb,nB b hb⟩) (hG.rise.imp λq=>al q) Z hB2 λj a n k x q1 q2 q3=>?_⟩
  .subst z;rw[Z] at e;cases e
  .have I:j<kvs.length:=(au q3).1;obtain⟨t,ht⟩:=pr j I;have ea:as[j]'(by omega)=a:=by rw[aA (by omega)] at q1;exact ak q1
   have en:ns[j]'(by omega)=n:=by rw[aA (by omega)] at q2;exact ak q2
   have ex:kvs[j]=(k,x):=by rw[aA I] at q3;exact ak q3
   rw[ea,en,ex] at ht;exact⟨t,Y a _ (nB a<|ah q1)<|ac _ ht⟩
end
end PySem.W
namespace L2
section
variable{X:Cx}{pins:List (Addr×Obj)}{W:St}{H H':Hp}{s:Shared}{h':Heap}
def Inv.grown{t':Nat}(I:Inv X pins W H s)(k:∀b u,s.heap.get? b=some u->h'.get? b=some u)(h:∀b u,H b=some u->H' b=some u)(Y:∀b o,s.heap.get? b=some o->H b=none->H' b=none)
  (J:∀b u,H' b=some u->H b=none->bL X.prog X.w H' h' b u):Inv X pins W H' {s with heap:=h',toks:=t'}:=by
 refine I.un ⟨λb o q _ _ _=>k b o q,λb o q _ _ _=>⟨o.slots,k b o q⟩,λb o q n _=>Y b o q n,λb o q _=>⟨o,k b o q⟩,λb xs q=>h b _ q,λb o u q=>h b _ q,λb ps q=>⟨#[],by simp_all⟩⟩ λb u e=>?_
 cases q:H b with
 |none=>exact J b u e q
 |some u'=>
  have:u'=u:=by simp_all
  subst this;exact(I.hok b u' q).stay (λc v _ z=>k c v z) (λc z=>h c _ z) λc xs z=>h c _ z
end
def Fj(td:TE):TE:=λW H Q=>td W H λx H1=>∃(a:Addr)(kvs:List (Key×V))(ns:List Int),x=.ref a/\H1 a=some (.dK kvs)/\kvs.map (·.1)=ns.map (Sum.inl:Int->Key)/\ns.Pairwise (· < ·)/\kvs.length<64/\
 ∀(Hm:Hp)(as:List Addr)(p:Addr),as.length=kvs.length->(∀b u,H1 b=some u->Hm b=some u)->(∀b u,Hm b=some u->H1 b=some u\/b∈as)->(∀b,b∈as->H1 b=none)->Hm p=none->
  (∀(j:Nat)(b:Addr)(n:Int)(v:V),as[j]? =some b->ns[j]? =some n->(kvs[j]?.map (·.2))=some v->Hm b=some (.tup [.int n,v]))->Q (.ref p) (upd Hm p<|.lst<|as.map .ref)
theorem KV.get{κ:Type}[DecidableEq κ]:∀{kvs:List (κ×V)}{vs:List (κ×Value)},KV kvs vs->∀{j:Nat}{k:κ}{u:Value},vs[j]? =some (k,u)->∃v,kvs[j]? =some (k,v)/\RelV v u
 |_,_,.nil,j,k,u,e=>by simp at e
 |_,_,.cons r t,0,k,u,e=>by
  obtain⟨I,h⟩:=r;simp only[List.getElem?_cons_zero,some.injEq] at e;subst e;exact⟨_,by exact congrArg some<|Prod.ext I rfl,h⟩
 |_,_,.cons r t,j+1,k,u,e=>by simpa using KV.get t (by simpa using e)
theorem mU:∀as:List Addr,bq (as.map .ref) (as.map .ref)
 |[]=>.nil
 |a::as=>.cons rfl<|mU as
theorem bL.here{H:Hp}{a:Addr}:∀{o:HO},bL P w H h a o->∃u,h.get? a=some u
 | .lst _,x=>by obtain⟨_,_,_,_,e⟩:=x;exact⟨_,e⟩
 | .tup _,x=>by obtain⟨_,_,_,u,e,_⟩:=x;exact⟨u,e⟩
 | .dK _,x=>by obtain⟨_,_,_,_,u,_,_,e,_⟩:=x;exact⟨u,e⟩
 | .dT _,x=>by obtain⟨_,_,_,_,u,_,_,e,_⟩:=x;exact⟨u,e⟩
 | .set _ _,x=>by obtain⟨u,_,_,_,e,_⟩:=x;exact⟨u,e⟩
 | .ins _ _ _,x=>by obtain⟨_,_,_,e,_⟩:=x;exact⟨_,e⟩
 | .own _,x=>x
 | .xd _,x=>by obtain⟨_,⟨u,_,_,e,_⟩,_⟩:=x;exact⟨u,e⟩
 | .rng _ _,x=>by obtain⟨_,_,_,e⟩:=x;exact⟨_,e⟩
 | .frz _ _,x=>⟨_,x.1⟩
 | .tbl _,x=>⟨_,x⟩
 | .met _ _,x=>⟨_,x⟩
 | .ext _,x=>x.2.1
def Bz{X:Cx}{td:TE}{p1 q1 ap cp:Pos}(hc:X.calm=true)(hg:Gl X "sorted")(hm:X.mg "sorted"=none)(ho:PE X o td)(J:attributeBase o "items" X.env (eval o X.env)=eval o X.env)(hl:(ap.endLine==cp.line)=true):
  PE X (.Call (.Name "sorted" p1) [.Call (.Attribute o "items" ap) [] [] cp] [] q1) (Fj td):=by
 intro pins s W H Q I h;refine wpAny_Call_Name_kw<|fF I hg hm boot_sorted ?_;refine PyProof.Rows.callWith_builtin1 ?_ rfl rfl;show wpAny _ _ (spliced<|(false,eval (.Call (.Attribute o "items" ap) [] [] cp) X.env)::backTo q1 (starEach [] X.env)) _ _ s;refine Calls.spliced_cons ?_;refine wpAny_Call_method0_late J hl<|bR (ho pins s W H _ I h) λv s1 hp=>?_;obtain⟨x,H1,I1,r1,a,kvs,ns,ex,hd,hk,up,h64,q1⟩:=hp;subst ex;obtain rfl:v=Value.ref a:=r1;obtain⟨z,hs,vs,rel,dd⟩:=lV I1.hok hd;obtain⟨t1,t2,_⟩:=iw I1<|.inl ⟨kvs,.inl hd⟩;refine⟨"dict","dict.items",PySem.F.plainAttrs_dict,PySem.F.slot_dict_items,PySem.F.type_dict_items,t1,t2,Calls.callWith_builtin rfl<|PySem.evalArgs_none ?_⟩;refine call_meetsIn PySem.F.slot_dict_items t1 PySem.F.entry_dict_items (PySem.F.args_dict_items_1 _) (meets_dict_items (bD X.prog X.w) a hs) ⟨⟨vs,dd⟩,?_⟩;refine Calls.spliced_nil ?_;obtain⟨ep,dat⟩:=(dd.push {cls:= .type "dict_items",data:= .fields #[.ref a]}).dictAt;have lv:=rel.length;have ln:ns.length=vs.length:=by have:=congrArg List.length hk;simp at this;lia
 have kn:vs.map (·.1)=ns.map (Sum.inl:Int->Key):=by rw[<-rel.keys];exact hk
 refine PySem.W.nW (ns:=ns) (I.ok.hd hc) ⟨_,aj _ rfl,rfl,rfl⟩ dat (by lia) (λj k x key e1 e2=>?_) ln up λh' tk B c as hkp hl' has hnd hB hB2 hpr=>?_
 .have Y:(vs.map (·.1))[j]? =some k:=by rw[az,e1];rfl
  rw[kn,az] at Y;cases q:ns[j]? with
  |none=>rw[q] at Y;cases Y
  |some n=>
   rw[q] at Y;cases Y;rcases bK (show il (.inl n) key=true from e2) with⟨i,t,e,rfl⟩|⟨y,t,e,_⟩
   .cases e;exact⟨_,t,rfl,rfl⟩
   .cases e
 .have keep:∀b u,s1.heap.get? b=some u->h'.get? b=some u:=λb u e=>hkp b u (ac _ e)
  have none1:∀b,(s1.heap.push {cls:= .type "dict_items",data:= .fields #[.ref a]}).get? b=none->s1.heap.get? b=none/\H1 b=none:=λb e=>by
   have e1:s1.heap.get? b=none:=by
    cases q:s1.heap.get? b with
    |none=>rfl
    |some o=>rw[ac _ q] at e;cases e
   refine⟨e1,?_⟩;cases q:H1 b with
   |none=>rfl
   |some u=>obtain⟨o,ho⟩:=(I1.hok b u q).here;rw[e1] at ho;cases ho
  have fr:∀b,b∈as->s1.heap.get? b=none/\H1 b=none:=λb J=>none1 b (has b J).1;obtain⟨fB1,fB2⟩:=none1 B hB
  let Hm:Hp:=λb=>if b∈as then(match ns[as.idxOf b]?,kvs[as.idxOf b]? with|some n,some kv=>some (.tup [.int n,kv.2])|_,_=>none) else H1 b
  have Z:∀b,b∉as->Hm b=H1 b:=λb J=>if_neg J
  have hm1:∀(j:Nat)(b:Addr)(n:Int)(v:V),as[j]? =some b->ns[j]? =some n->(kvs[j]?.map (·.2))=some v->Hm b=some (.tup [.int n,v]):=λj b n v e1 e2 Y=>by
   have J:=ah e1
   have hi:as.idxOf b=j:=by obtain⟨hj,rfl⟩:=au e1;exact hnd.idxOf_getElem j hj
   show(if b∈as then _ else _)=_
   rw[if_pos J,hi,e2];cases q:kvs[j]? with
   |none=>rw[q] at Y;cases Y
   |some kv=>rw[q] at Y;cases Y;rfl
  have hE:∀b u,H1 b=some u->Hm b=some u:=λb u e=>by
   rw[Z b λJ=>by rw[(fr b J).2] at e;cases e]
   exact e
  have hBm:Hm B=none:=by rw[Z B λJ=>(has B J).2 rfl];exact fB2
  have hEB:∀b u,H1 b=some u->upd Hm B (.lst<|as.map .ref) b=some u:=λb u e=>by
   rw[aq (λz=>by cases z;rw[fB2] at e;cases e)]
   exact hE b u e
  refine⟨.ref B,_,I1.grown (H':=upd Hm B<|.lst<|as.map .ref) (t':=tk) keep hEB (λb o e n=>?_)<|λb u e n=>?_,rfl,q1 Hm as B (by lia) hE (λb u e=>?_) (λb J=>(fr b J).2) hBm hm1⟩
  .rw[aq (λz=>by subst z;rw[fB1] at e;cases e),Z b λJ=>by rw[(fr b J).1] at e;cases e]
   exact n
  .by_cases J:b=B
   .subst J;rw[aT] at e;cases e;refine⟨by simp;omega,as.map .ref,c,mU as,hB2⟩
   .rw[aq J] at e;by_cases ha:b∈as
    .obtain⟨j,hj,rfl⟩:=List.getElem_of_mem ha;have e1:as[j]? =some as[j]:=by simp
     have e2:ns[j]? =some (ns[j]'(by omega)):=by simp
     have Y:vs[j]? =some (vs[j]'(by omega)):=by simp
     obtain⟨v,e4,rv⟩:=KV.get rel (k:=(vs[j]'(by omega)).1) (u:=(vs[j]'(by omega)).2) Y
     obtain⟨t,ht⟩:=hpr j _ _ _ _ e1 e2 Y;rw[hm1 j _ _ v e1 e2 (by rw[e4];rfl)] at e
     cases e;exact⟨by rw[sizeLine_eq];exact(show 2<=16777216 by decide),[.int _ t,_],.cons ⟨t,rfl⟩<|.cons rv .nil,_,ht,⟨rfl,rfl⟩,0,rfl⟩
    .rw[Z b ha,n] at e;cases e
  .by_cases ha:b∈as
   .exact .inr ha
   .rw[Z b ha] at e;exact .inl e
open Tab23
section
end
section
variable{X:Cx}{pins:List (Addr×Obj)}{W:St}{H:Hp}{s:Shared}{a:Addr}{o:Obj}{kvs:List (Key×V)}
def Inv.swapD{u h:HO}(I:Inv X pins W H s)(e:H a=some u)(Y:∀xs,u≠ .tup xs)(no:∀x,u≠ .own x)(nt:∀ps,u≠ .tbl ps)(nf:∀o w,X.H₀ a≠some (.frz o w))(new:bL X.prog X.w (upd H a h) s.heap a h):Inv X pins W (upd H a h) s:=by
 have na:∀{b:Addr},H b=none->b≠a:=λq z=>by rw[z,e] at q;cases q
 refine⟨I.ok,I.os,I.bare,⟨I.base.keep,I.base.slot,λb J q n hx=>?_,I.base.there,λb xs q=>?_,λb J w q=>?_,λb ps q=>?_⟩,I.loc,I.cell,?_,λx c q=>?_,λp hp=>?_,λb w q=>?_,I.len⟩
 .have z:=I.base.free b J q n hx;rw[aq<|na z];exact z
 .have z:=I.base.tups b xs q;rw[aq<|cg z e λy=>Y _ y.symm];exact z
 .have z:=I.base.frzs b J w q;refine(aq λy=>?_).trans z;rw[y] at q;exact nf _ _ q
 .obtain⟨m,z⟩:=I.base.tbls b ps q;exact⟨m,by rw[aq<|cg z e λy=>nt _ y.symm];exact z⟩
 .rw[aq<|na I.free];exact I.free
 .rw[aq<|na<|I.freeC x c q];exact I.freeC x c q
 .obtain⟨h1,Z,h3⟩:=I.pin p hp;exact⟨h1,by rw[aq<|na Z];exact Z,h3⟩
 .by_cases hb:b=a
  .cases hb;rw[aT] at q;cases q;exact new
  .rw[aq hb] at q;exact(I.hok b w q).stay (λ_ _ _ z=>z) (λc z=>by rw[aq<|cg z e λy=>no _ y.symm];exact z) λc xs z=>by rw[aq<|cg z e λy=>Y _ y.symm];exact z
def Inv.freezeD(I:Inv X pins W H s)(e:H a=some (.dK kvs))(ho:s.heap.get? a=some o):Inv X pins W (upd H a<|.frz o<|.dK kvs) s:=
 I.swapD e (λ_ z=>nomatch z) (λ_ z=>nomatch z) (λ_ z=>nomatch z) (λo' w z=>by rw[I.base.frzs _ _ _ z] at e;cases e) ⟨ho,I.hok a _ e⟩
def Inv.thawD(I:Inv X pins W H s)(e:H a=some (.frz o<|.dK kvs))(h:∀o w,X.H₀ a≠some (.frz o w)):Inv X pins W (upd H a<|.dK kvs) s:=
 I.swapD e (λ_ z=>nomatch z) (λ_ z=>nomatch z) (λ_ z=>nomatch z) h (show bL _ _ H s.heap a _ from I.hok a _ e).2
def Inv.nofrzD(I:Inv X pins W H s)(e:H a=some (.dK kvs)):∀o' w,X.H₀ a≠some (.frz o' w):=λo' w z=>by rw[I.base.frzs _ _ _ z] at e;cases e
end
def Aa(X:Cx)(Q:Hp->Prop)(H:Hp):Prop:=∃a o kvs,H a=some (.frz o<|.dK kvs)/\(∀o w,X.H₀ a≠some (.frz o w))/\Q (upd H a<|.dK kvs)
theorem PE.thawD{t:TE}(h:PE X e t):PE X e λW H Q=>t W H λv H1=>Aa X (Q v) H1:=λpins s W H Q I q=>
 bR (h pins s W H _ I q) λu J ⟨x,H1,I1,r1,a,o,kvs,e,nf,q2⟩=>⟨x,_,I1.thawD e nf,r1,q2⟩
def oO{H:Hp}{a:Addr}(x:bL P w H h a (.dK kvs)):∃o es ep vs,h.get? a=some o/\o.ExactDict/\o.data=.dict es ep/\KV kvs vs/\Pairs (bD P w) es.toList vs/\es.size=kvs.length/\(a==sysModules)=false:=by
 obtain⟨z,y,vs,r,o,es,ep,h1,Y,J,h4,I,Z⟩:=x;exact⟨o,es,ep,vs,h1,Y,J,r,I,by rw[<-length_toList,I.length,<-r.length],y⟩
theorem xB:∀{kvs:List (Key×V)}{vs:List (Key×Value)}{es:List DictEntry}{i:Nat}{p:Key×V}{e:DictEntry},KV kvs vs->Pairs (bD P w) es vs->kvs[i]? =some p->es[i]? =some e->RelV (kV p.1) e.key
 |_,_,_,i,p,e,.nil,.nil,h,_=>by simp at h
 |_,_,_,0,p,e,.cons r _,.cons h1 h2 _,h,h'=>by
  simp only[List.getElem?_cons_zero,some.injEq] at h h';subst h h';rw[r.1];rcases bK (show il _ _=true from h1) with⟨i,t,e1,e2⟩|⟨x,t,e1,e2⟩
  .rw[e1,e2];exact⟨t,rfl⟩
  .rw[e1,e2];exact⟨t,rfl⟩
 |_,_,_,i+1,p,e,.cons _ t,.cons _ _ u,h,h'=>xB t u (by simpa using h) (by simpa using h')
noncomputable def GI(o:Obj)(d:Addr)(kvs:List (Key×V)):It:=
 ⟨λi H=>H d=some (.frz o<|.dK kvs)/\∃p,kvs[i]? =some p,λi H x H'=>H'=H/\∃p,kvs[i]? =some p/\x=kV p.1,λi H=>H d=some (.frz o<|.dK kvs)/\kvs.length<=i⟩
def GM(o:Obj)(it d:Addr)(i:Nat)(h:Heap):Prop:=∃es ep,o.data=.dict es ep/\h.RawIt "dict_keyiterator" it d i es.size ep
def vS{W:St}{H:Hp}{d:Addr}{es:Array DictEntry}{ep:Nat}(I:Inv X pins W H s)(e:H d=some (.frz o<|.dK kvs))(ho:o.data=.dict es ep):
  s.heap.RawD d es ep/\es.size=kvs.length/\∃vs,KV kvs vs/\Pairs (bD X.prog X.w) es.toList vs:=by
 obtain⟨e1,e2⟩:=(show bL X.prog X.w H s.heap d _ from I.hok d _ e);obtain⟨o',es',ep',vs,h1,h2,h,Z,Y,J,_⟩:=oO e2;rw[e1] at h1;cases h1;rw[ho] at h;cases h;exact⟨⟨o,e1,h2,ho⟩,J,vs,Z,Y⟩
def qE{K:aw}(o:Obj)(d it:Addr)(kvs:List (Key×V)):Turn P w K tg (GI o d kvs) [it] it (GM o it d) where
 mem:=by simp
 obj:=λi h hp b hb=>by
  obtain⟨es,ep,_,ob,ho,_,hd⟩:=hp;have:b=it:=by simpa using hb
  subst this;exact⟨ob,ho,λv z=>by rw[hd] at z;cases z⟩
 keep:=λi h h' ⟨es,ep,hd,st⟩ kk=>⟨es,ep,hd,st.at λo q=>kk it (by simp) o q⟩
 item:=by
  intro X hP hw hK hc i pins s W H E I hf st hg;subst hP hw hK;obtain⟨es,ep,hd,hit⟩:=st;obtain⟨e,p,hp⟩:=hg;obtain⟨Y,h5,vs,r,h4⟩:=vS I e hd;have hi:i<es.size:=by rw[h5];exact(au hp).1
  have k1:=xB (e:=es[i]) r h4 hp (by simp[hi])
  obtain⟨f0,f1,f2,f3,f4,f5⟩:=hf it (by simp)
  refine wY hit Y hi λh' J Z=>?_
  replace Z:Heap.SameBut it s.heap h':=Z
  obtain⟨ob,ho,hcl,hda⟩:=id J;refine⟨_,rfl,p9 (s:={s with heap:=h'}) (n:= "dict_keyiterator") ho hcl hda (by decide) ⟨kV p.1,H,I.turned (t':=s.toks) (λc q hc e=>Z.extBut c q hc e) f0 f1 f3 f4 f5,k1,⟨rfl,p,hp,rfl⟩,⟨es,ep,hd,J⟩,λc hc=>(hf c hc).1⟩⟩
 done:=by
  intro X hP hw hK hc i pins s W H E I hf st hg;subst hP hw hK;obtain⟨es,ep,hd,hit⟩:=st;obtain⟨e,hl⟩:=hg;obtain⟨Y,h5,vs,r,h4⟩:=vS I e hd;obtain⟨f0,f1,f2,f3,f4,f5⟩:=hf it (by simp)
  exact zt (I.ok.hd hc) hit Y (by lia) λh' eb=>⟨rfl,I.turned (t':=s.toks) (λb o hb e=>eb b o hb e) f0 f1 f3 f4 f5⟩
 self:=λ_ _ _ _ _ ⟨es,ep,_,st⟩ h=>wpAny_pyIter_keyiter (show Heap.IsKeyIter _ _ _ _ _ _ from st) h
def FW(X:Cx)(tl:TE):TI:=λW H R=>tl W H λx H1=>∃a kvs,x=.ref a/\H1 a=some (.dK kvs)/\∀o,(∀o' w,X.H₀ a≠some (.frz o' w))->R (GI o a kvs) (upd H1 a<|.frz o<|.dK kvs)
def ui{tl:TE}(hl:PE X l tl):PI X tg l (FW X tl):=by
 intro pins s W H R I h;refine bR (hl pins s W H _ I h) λv Y hp=>?_;obtain⟨x,H1,J,r1,a,kvs,ex,e,q⟩:=hp;subst ex;subst r1;obtain⟨o,es,ep,vs,h1,h2,Z,h4,h5,h6,lo⟩:=oO (J.hok a _ e);have nf:=J.nofrzD e;refine wm lo ⟨o,h1,h2,Z⟩ ?_;have I2:=(J.freezeD e h1).kept (t':=Y.toks) (h':=Y.heap.push {cls:= .type "dict_keyiterator",data:= .fields #[.ref a,.int 0 0,.int es.size 0,.int ep 0]}) λb q z=>ac _ z;refine⟨Y.heap.objs.size,[Y.heap.objs.size],_,_,_,rfl,I2,qE o a _ kvs,⟨es,ep,Z,_,aj _ rfl,rfl,rfl⟩,λb hb=>?_,q o nf⟩;have eb:=by simpa using hb
 subst eb;exact(J.freezeD e h1).fpOk (af _)<|(J.freezeD e h1).hok.fresh<|af _
end L2
namespace PySem.W
open PySem.Calls Tab23
section
end
end PySem.W
namespace L2
open Tab23
end L2
namespace Tab23
noncomputable def Av(a b:Str):Bool:= !ltCps b.cps.toList a.cps.toList
def zy(x:Str):List Str->List Str
 |[]=>[x]
 |y::r=>if Av x y then x::y::r else y::zy x r
def dI:List Str->List Str
 |[]=>[]
 |x::r=>zy x<|dI r
theorem nb(x:Str):∀l,(zy x l).Perm (x::l)
 |[]=>.refl _
 |y::r=>by
  unfold zy;split
  .rfl
  .exact((nb x r).cons y).trans<|.swap x y r
theorem hX:∀l,(dI l).Perm l
 |[]=>.refl _
 |x::r=>(nb x _).trans<|(hX r).cons x
def iY{a b:Str}:Av a b=true↔a.cps.toList<=b.cps.toList:=by unfold Av;rw[ltCps_eq];simp
theorem lj:∀(p:Str)(l:List Str),risingS p l=true->(∀x∈l,Av p x=true)/\l.Pairwise λa b=>Av a b=true
 |p,[],_=>⟨λ_ h=>(nomatch h),.nil⟩
 |p,x::r,h=>by
  have h':Av p x=true/\risingS x r=true:=by simpa[risingS,Av] using h
  obtain⟨h1,J⟩:=lj x r h'.2;refine⟨λy I=>?_,List.pairwise_cons.mpr ⟨h1,J⟩⟩;rcases mem_cons.mp I with rfl|I
  .exact h'.1
  .exact iY.mpr<|List.le_trans (iY.mp h'.1)<|iY.mp<|h1 y I
def k9{l:List Str}(h:sortedS l=true):l.Pairwise λa b=>Av a b=true:=by
 cases l with
 |nil=>exact .nil
 |cons x r=>exact List.pairwise_cons.mpr<|lj x r h
def sw{a b:List Str}(p:a.Perm b)(h:sortedS a=true)(k:sortedS (dI b)=true):a=dI b:=by refine List.Perm.eq_of_pairwise (λx y _ _ h1 I=>?_) (k9 h) (k9 k)<|p.trans (hX b).symm;have:=List.le_antisymm (iY.mp h1)<|iY.mp I;cases x;simp_all
end Tab23
namespace PySem.W
open PySem.Calls Tab23
section
variable{prog:Program}{w:World}{A:Around}{E:Value->Shared->Prop}{s:Shared}
def mO{ns:List Str}{acc:List Value}(I:acc.length=ns.length)(h:∀(j:Nat)(v:Value) (n:Str),acc[j]? =some v->ns[j]? =some n->∃t:Tok,v=.str n t):StrsAre acc ns:=by
 induction acc generalizing ns with
 |nil=>
  cases ns with
  |nil=>exact .nil
  |cons n ns=>simp at I
 |cons v acc ih=>
  cases ns with
  |nil=>simp at I
  |cons n ns=>
   obtain⟨t,rfl⟩:=h 0 v n rfl rfl;exact .cons _ _<|ih (by simpa using I) λj v n a b=>h (j+1) v n a b
def nX{K:Type}[DecidableEq K]{knd:PySem.KeyKind prog w K}{a:Addr}{kvs:List (K×Value)}{ep:Nat}{ns:List Str}{Q:Value->Shared->Prop}(hh:A.handled=none)(lo:(a==sysModules)=false)(x:s.heap.DictAt knd a kvs ep)(hz:kvs.length<64)(J:ns.length=kvs.length)(hs:sortedS (dI ns)=true)
  (hk:∀(j:Nat)(k:K)(y key:Value)(n:Str),kvs[j]? =some (k,y)->knd.is k key=true->ns[j]? =some n->∃t:Tok,key=.str n t)
  (h:∀(h':Heap)(tk:Nat)(D:Addr)(out:Array Value)(c:Nat),(∀b o,s.heap.get? b=some o->h'.get? b=some o)->s.heap.get? D=none->h'.get? D=some (seqObj "list" out c)->StrsAre out.toList (dI ns)->Q (.ref D) {s with heap:=h',toks:=tk}):
  wpAny (model prog w) A (call (.builtin "sorted") [.ref a]) Q E s:=by
 refine call_function_entry kind_sorted plain_sorted entry_sorted (args_sorted1 _) ?_;unfold Builtin.«sorted»;refine aa (m:=checkCount "sorted" 1 1 _)<|ae<|aa<|kdu_collect (A:=A.in1) (kdl_dict (knd:=knd) (kvs:=kvs) (ep:=ep) lo) hh x (by rw[sizeLine_eq];lia) λh' tk acc Y I=>?_
 have hI:StrsAre acc.toList ns:=mO (by rw[length_toList,I.1,J]) λj v n e1 e2=>by
  obtain⟨k,y,e3,e4⟩:=I.2 j v (by rw[<-Array.getElem?_toList];exact e1)
  exact hk j k y v n e3 e4 e2
 have hn:acc.toList.length<64:=by rw[length_toList,I.1];omega
 refine aa<|wpAny_newList ?_ (by rw[sizeLine_eq];lia)
 have ho:(h'.push<|seqObj "list" acc.toList.toArray 0).get? h'.objs.size=some (seqObj "list" acc.toList.toArray 0):=aj _ rfl;refine aa<|wpAny_holding<|wpAny_call_entry slot_list_sort ⟨_,ho,rfl⟩ entry_list_sort (list_sort_treeK strKind_oneLt ho hI.keysOf (λv₁ v₂ rest e=>keyKind_strs (by rw[<-e];exact hI)) hn λst' hp Z=>⟨_,rfl,?_⟩)<|args_list_sort _
 obtain⟨ss',a1,a2,a3⟩:=sorted_out_str hI hp Z;obtain⟨c,hc⟩:=sortedHeap_at (out:=(arrOf st').map (·.2)) ho
 have hb:s.heap.get? h'.objs.size=none:=by
  cases e:s.heap.get? h'.objs.size with
  |none=>rfl
  |some o=>exact absurd (ai<|Y _ _ e)<|bj _
 refine ae ⟨_,rfl,h _ tk h'.objs.size _ c (λb o q=>?_) hb hc (by rw[<-sw a2 a3 hs];exact a1)⟩
 have q2:=Y b o q;rw[sortedHeap_old (al<|ai q2) (by rw[Heap.size_push];exact Nat.lt_succ_of_lt<|ai q2)]
 exact ac _ q2
end
end PySem.W
namespace L2
open Tab23
section
variable{X:Cx}
theorem ji:∀{vs:List Value}{ns:List Str},StrsAre vs ns->bq (ns.map V.str) vs
 |_,_,.nil=>.nil
 |_,_,.cons n t h=>.cons ⟨t,rfl⟩<|ji h
def jz{W:St}{H:Hp}{h':Heap}{tk:Nat}{D:Addr}{c:Nat}{Q:VK}(I:Inv X pins W H s)(k:∀b u,s.heap.get? b=some u->h'.get? b=some u)(J:s.heap.get? D=none)
  (Z:h'.get? D=some (seqObj "list" out c)) (hi:bq vs out.toList)(Y:vs.length<64)(q:∀l,H l=none->Q (.ref l) (upd H l<|.lst vs)):EP X pins W Q (.ref D) {s with heap:=h',toks:=tk}:=by
 have h:H D=none:=by
  cases q:H D with
  |none=>rfl
  |some u=>obtain⟨o,ho⟩:=(I.hok D u q).here;rw[J] at ho;cases ho
 refine⟨.ref D,_,I.grown (t':=tk) k (λb u e=>?_) (λb o e n=>?_)<|λb u e n=>?_,rfl,q D h⟩
 .rw[aq (λz=>by subst z;rw[h] at e;cases e)];exact e
 .rw[aq (λz=>by subst z;rw[J] at e;cases e)];exact n
 .by_cases hb:b=D
  .subst hb;rw[aT] at e;cases e;exact⟨by rw[sizeLine_eq];lia,out.toList,c,hi,by omega⟩
  .rw[aq hb,n] at e;cases e
def mD(hc:X.calm=true):dg X (.builtin "sorted") (λxs H Q=>∃(p:Addr)(kvs:List (Key×V))(ns:List Str),xs=[.ref p]/\H p=some (.dK kvs)/\kvs.map (·.1)=ns.map (Sum.inr:Str->Key)/\kvs.length<64/\sortedS (dI ns)=true/\∀l,H l=none->Q (.ref l) (upd H l<|.lst<|(dI ns).map V.str)):=by
 intro pins s W H xs us Q I r h;obtain⟨p,kvs,ns,rfl,hd,hk,hz,J,q⟩:=h;obtain⟨u,rfl,rx⟩:=vals1 r;subst rx;obtain⟨z,hs,vs,rel,dd⟩:=lV I.hok hd;obtain⟨ob,es,ep0,vs0,g1,g2,g3,g4,g5,g6,lo⟩:=oO<|I.hok p _ hd;obtain⟨ep,Z⟩:=dd.dictAt;have lv:=rel.length;have ln:ns.length=vs.length:=by have:=congrArg List.length hk;simp at this;lia
 have kn:vs.map (·.1)=ns.map (Sum.inr:Str->Key):=by rw[<-rel.keys];exact hk
 refine PySem.W.nX (ns:=ns) (I.ok.hd hc) lo Z (by lia) ln J (λj k y key n e1 e2 e3=>?_) λh' tk D out c kk hD Y hi=>jz (tk:=tk) I kk hD Y (ji hi) (by rw[length_map,(hX ns).length_eq];lia) q
 have e4:(vs.map (·.1))[j]? =some k:=by rw[az,e1];rfl
 rw[kn,az,e3] at e4;cases e4;rcases bK (show il (.inr n) key=true from e2) with⟨i,t,e,_⟩|⟨y,t,e,rfl⟩
 .cases e
 .cases e;exact⟨t,rfl⟩
def uW(hc:X.calm=true):dg X (.builtin "sum") (λxs H Q=>∃(p:Addr)(ns:List Int),xs=[.ref p]/\dG X.K H p (ns.map V.int)/\Q (.int ns.sum) H):=by
 intro pins s W H xs us Q I r h;obtain⟨p,ns,rfl,hq,q⟩:=h;obtain⟨u,rfl,Z⟩:=vals1 r;subst Z;obtain⟨its,r',pl,_⟩:=I.list hq;have hi:=intsAre_of r';obtain⟨xs,Y⟩:=hi.allInts.items;have J:=Y▸pl.isList;refine sum_intListG (I.ok.hd hc) J λh' tk t' hk=>?_
 have e1:ns=xs.toList.map (·.1):=by rw[<-nums_intItems,<-Y];exact(show _=ns from hi.numsOf).symm
 have e2:preSum (numAt xs) xs.size=ns.sum:=by
  rw[preSum_eq,List.take_of_length_le (by simp),e1]
 rw[e2];refine⟨.int ns.sum,H,I.grown hk (λb u e=>e) (λb o e n=>n)<|λb u e n=>?_,⟨t',rfl⟩,q⟩
 simp_all
end
def jy(l b:Addr)(items:Array Value)(n:Nat)(items2:Array Value)(n2:Nat)(Y:items.size+items2.size<=sizeLine):
  Meets (Builtin.«list.extend» {pos:=[.ref l,.ref b]}) λ_ R s=>∃h,s.heap.get? l=some {cls:= .type "list",data:= .seq items n}/\s.heap.get? b=some h/\h.cls=.type "tuple" /\h.data=.seq items2 n2/\
   R (.ok<|.ret .none) {s with heap:=s.heap.update l (Obj.mapSeq λx=>x++items2)}:=by
 intro prog w A R s ⟨h,I,J,Z,hd,hR⟩;unfold Builtin.«list.extend»;refine aa ?_;refine ae (a:=(Value.ref l,Value.ref b)) ?_;refine aa<|wpAny_typeOf_ref J ?_;rw[Z];rw[if_pos (by simp)]
 refine aa<|listItems_at J hd ?_;refine aa<|listItems_at I rfl ?_;rw[if_neg (by rw[lD Y];simp)]
 refine aa<|listUpdate_at I rfl ?_ (by lia) (by simp;lia)
 exact ae hR
section
variable{X:Cx}
def wn(K:aw):V->List V->Hp->VK->Prop:=λx vs H Q=>∃l b xs zs,x=.ref l/\vs=[.ref b]/\H l=some (.lst xs)/\(H b=some (.lst zs)\/dY K H b zs)/\xs.length+zs.length<=sizeLine/\Q .non (upd H l<|.lst<|xs++zs)
def rf:EU X "list.extend" (wn X.K):=by
 intro pins s W H x vs v us Q I Z rv h;obtain⟨l,b,xs,zs,rfl,rfl,Y,J,hz,q⟩:=h;rcases J with J|J
 .exact ur pins s W H _ _ v us Q I Z rv ⟨l,b,xs,zs,rfl,rfl,Y,J,hz,q⟩
 .subst Z;obtain⟨u,rfl,ru⟩:=rv.one;subst ru;obtain⟨z,its,n,r,hl,e⟩:=I.lstM Y;obtain⟨its2,r2,⟨ob,ho,hc,n2,hd⟩,z2⟩:=I.tuple J;have hl2:=r2.length
  refine call_meets F.slot_list_extend ⟨_,e,rfl⟩ F.entry_list_extend (F.args_list_extend_2 _ _)
   (jy l b its.toArray n its2.toArray n2 (by simp_all)) ⟨ob,e,ho,hc,hd,?_⟩
  refine⟨.non,_,I.lset Y e (by simp) (r.append r2) ?_,rfl,q⟩
  simp_all
end
section
variable{X:Cx}
def getD_at{bs:List Bool}{i:Nat}(h:i<bs.length):bs.getD i false=bs[i]:=by simp[List.getD,h]
def any_bools(bs:List Bool):(range bs.length).any (λi=>bs.getD i false)=bs.any id:=by
 rw[Bool.eq_iff_iff,any_eq_true,any_eq_true];constructor
 .rintro⟨i,hi,h⟩;have I:=mem_range.mp hi;exact⟨true,by rw[getD_at I] at h;rw[<-h];simp,rfl⟩
 .rintro⟨b,J,h⟩;obtain⟨i,I,e⟩:=List.getElem_of_mem J;exact⟨i,mem_range.mpr I,by rw[getD_at I,e];exact h⟩
def u6(hc:X.calm=true):dg X (.builtin "any") (λxs H Q=>∃(a:Addr)(bs:List Bool),xs=[.ref a]/\dG X.K H a (bs.map V.bl)/\Q (.bl<|bs.any id) H):=by
 intro pins s W H xs us Q I r h;obtain⟨a,bs,rfl,hq,q⟩:=h;obtain⟨u,rfl,rx⟩:=vals1 r;subst rx;obtain⟨its,r2,Z,_⟩:=I.list hq;have len:=r2.length;rw[length_map] at len;have lt:a<s.heap.objs.size:=by obtain⟨_,e,_⟩:=Z.isList;exact ai e
 refine call_any_walk<|wpAny_pyIter_list Z.isList ⟨_,_,_,_,_,_,λi=>bs.getD i false,rfl,Walks.list (A:=X.A.in1) (I.ok.hd hc) s.heap.objs.size a (al lt) its.toArray,⟨⟨_,aj _ rfl,rfl,rfl⟩,Z.isList.push _⟩,λi v s2 Q2 E2 Y hQ=>?_,λh2 tk kk=>?_⟩
 .have Y:its[i]? =some v:=by simpa using Y
  have hi:i<bs.length:=by rw[len];exact(au Y).1
  obtain⟨u,hu,ru⟩:=r2.get (i:=i) (x:= .bl bs[i]) (by simp[hi])
  rw[Y] at hu;cases hu;obtain rfl:v=Value.bool bs[i]:=ru;have J:Q2 (bs.getD i false) s2:=hQ;rw[getD_at hi] at J;exact wpAny_truthy_bool J
 .rw[size_toArray,<-len,any_bools];refine⟨.bl<|bs.any id,H,I.kept (t':=tk) λb o e=>kk b o (λz=>?_)<|ac _ e,rfl,q⟩;have zb:b=s.heap.objs.size:=by simpa using z
  rw[zb] at e;exact bj _<|ai e
noncomputable def top(n:Int):List Int->Int
 |[]=>n
 |m::r=>top (if m>n then m else n) r
theorem sj(n:Int):∀(ns:List Int),top n ns∈n::ns
 |[]=>mem_singleton.mpr rfl
 |m::r=>by
  unfold top;rcases mem_cons.mp (sj _ r) with h|h
  .rw[h];split
   .exact .tail _<|.head _
   .exact .head _
  .exact .tail _<|.tail _ h
theorem vM:∀(n:Int)(ns:List Int),∀x∈n::ns,x<=top n ns
 |n,[],x,h=>by rw[mem_singleton.mp h];exact Int.le_refl _
 |n,m::r,x,h=>by
  unfold top;have up:=vM (if m>n then m else n) r
  have up0:=up _<|.head _;rcases mem_cons.mp h with rfl|h
  .lia
  .rcases mem_cons.mp h with rfl|h
   .lia
   .exact up x<|.tail _ h
def uY(hc:X.calm=true):dg X (.builtin "max") (λxs H Q=>∃(p:Addr)(n:Int) (ns:List Int),xs=[.ref p]/\dG X.K H p ((n::ns).map V.int)/\Q (.int<|top n ns) H):=by
 intro pins s W H xs us Q I r h;obtain⟨p,n,ns,rfl,hq,q⟩:=h;obtain⟨u,rfl,rx⟩:=vals1 r;subst rx;obtain⟨its,r2,pl,_⟩:=I.list hq;have hi:=intsAre_of r2;obtain⟨zs,Y⟩:=hi.allInts.items;have e1:n::ns=zs.toList.map (·.1):=by rw[<-nums_intItems,<-Y];exact(show _=n::ns from hi.numsOf).symm
 have sz:zs.size=ns.length+1:=by have:=congrArg List.length e1;simp at this;lia
 refine max_intList (I.ok.hd hc) (Y▸pl.isList) (by lia) λv h2 tk hv kk=>?_
 obtain⟨t,rfl⟩:=intItems_at hv;obtain⟨g1,g2⟩:=argBest_gt (numAt zs) (zs.size - 1);have num:∀j,j<zs.size->numAt zs j∈n::ns:=λj J=>by rw[e1,numAt_eq];exact getD_mem (by rw[length_map,length_toList];exact J)
 have eq:numAt zs (argBest (λi j=>decide<|numAt zs i>numAt zs j)<|zs.size - 1)=top n ns:=by
  refine Int.le_antisymm (vM n ns _<|num _ (by lia)) ?_
  have Z:=sj n ns;rw[e1] at Z;obtain⟨j,J,ej⟩:=mem_getD Z;rw[length_map,length_toList] at J;have:=g2 j (by lia)
  rw[numAt_eq zs j,ej] at this;exact this
 rw[eq];exact⟨.int<|top n ns,H,I.kept (t':=tk) kk,⟨t,rfl⟩,q⟩
def mC:dg X (.builtin "sorted") (λxs H Q=>∃(p:Addr)(ns:List Str),xs=[.ref p]/\dG X.K H p (ns.map V.str)/\ns.length<64/\sortedS (dI ns)=true/\∀l,H l=none->Q (.ref l) (upd H l<|.lst<|(dI ns).map V.str)):=by
 intro pins s W H xs us Q I r h;obtain⟨p,ns,rfl,hq,hz,hs,q⟩:=h;obtain⟨u,rfl,rx⟩:=vals1 r;subst rx;obtain⟨its,J,pl,_⟩:=I.list hq;have len:=J.length;rw[length_map] at len
 have hS:StrsAre its ns:=PySem.W.mO len.symm λj v n e1 e2=>by
  obtain⟨u,Y,ru⟩:=J.get (i:=j) (x:= .str n) (by rw[az,e2];rfl)
  rw[e1] at Y;cases Y;exact ru
 refine sorted_strs pl.isList hS (by lia) λout ss Z a2 a3=>?_
 obtain⟨e,he⟩:=sortedAll_at s.heap its out;rw[sw a2 a3 hs] at Z;exact jz (tk:=s.toks) I (λb o x=>sortedAll_old x) (Heap.get?_none_of_le<|le_succ _) he (ji Z) (by rw[length_map,(hX ns).length_eq];exact hz) q
def uk{td:TE}{ap cp:Pos}(ho:PE X o td)(hb:attributeBase o "clear" X.env (eval o X.env)=eval o X.env)(hl:(ap.endLine==cp.line)=true):
  PE X (.Call (.Attribute o "clear" ap) [] [] cp) (λW H Q=>td W H λx H1=>∃a kvs,x=.ref a/\H1 a=some (.dK kvs)/\Q .non (upd H1 a<|.dK [])):=by
 intro pins s W H Q I h;refine wpAny_Call_method0_late hb hl<|bR (ho pins s W H _ I h) λv s1 Z=>?_;obtain⟨x,H1,J,Y,a,kvs,ex,hd,q1⟩:=Z;subst ex;obtain rfl:v=Value.ref a:=Y;obtain⟨t1,t2,_⟩:=iw J<|.inl ⟨kvs,.inl hd⟩;exact⟨"dict","dict.clear",PySem.F.plainAttrs_dict,PySem.F.slot_dict_clear,PySem.F.type_dict_clear,t1,t2,Calls.callWith_builtin rfl<|PySem.evalArgs_none<|zW J hd λs2 I2=>⟨.non,_,I2,rfl,q1⟩⟩
end
end L2
namespace Ev
open L2 Tab23
noncomputable def d_:List (Key×D)->Key->Option D
 |[],_=>none
 |p::r,k=>if p.1=k then some p.2 else d_ r k
noncomputable abbrev Loc:=List<|Option D
inductive Bo where
 |add|sub|mul|fdiv|mod|pow
inductive Bt where
 |len|list|tuple|int|dict|max|min|sum|any|sorted
inductive Ty where
 |list|tuple|bool
inductive Ex where
 |c (d:D)|v (i:Nat)|tup (es:List Ex)|lst (es:List Ex)|emp
 |bin (op:Bo)(a b:Ex)|not (a:Ex)|and (a b:Ex)|or (a b:Ex)
 |cmp (op:CmpOp)(a b:Ex)|chain (op op':CmpOp)(a b c:Ex)
 |ix (a b:Ex)|sl (a lo hi:Ex)(hl hh:Bool)
 |fn (f:Nat) (args:List Ex)|bt (f:Bt)(args:List Ex)
 |comp (rng:Bool)(src elt:Ex)|compIf (src test elt:Ex)
 |dict (ks:List Str) (vs:List Ex)|pop (o:Ex)
 |fld (a:Ex)(f:Str)(cs ics:List Str)
 |new (x:Str) (f:Nat) (args:List Ex)|meth (o:Ex)(m:Str)(ms:List (Str×Nat))(args:List Ex)
 |vmx (o elt:Ex)|vmd (o elt:Ex)|sum3 (src elt:Ex)|dict2 (a b c d:Ex)
 |compU (src elt:Ex)|isk (a:Ex)(cs:List Str)|isi (a:Ex)(t:Ty)|sit (a:Ex)|keq (i j:Nat)|inV (a b:Ex)
noncomputable def alloc(xs:List D):M D:=λst=>.ok (.ref st.length)<|st++[.lst xs]
noncomputable def allocD:M D:=λst=>.ok (.ref st.length)<|st++[.dct []]
noncomputable def bz(st:aV):D->Option (List D)
 | .tup xs=>some xs
 | .fl xs=>some xs
 | .ref n=>match st[n]? with
  |some (.lst xs)=>some xs
  |_=>none
 |_=>none
noncomputable def Bv(x:D):M D:=λst=>match x with
 | .ref n=>match st[n]? with
  |some (.lst xs)=>match xs[0]? with
   |some y=>.ok y<|st.set n<|.lst<|xs.drop 1
   |none=>.bad
  |_=>.bad
 |_=>.bad
noncomputable def big:Int:=18446744073709551616
noncomputable def ii(f:Int->Int->M D)(x y:D):M D:=match x with
 | .int i=>(match y with
  | .int j=>f i j
  |_=>stuck)
 |_=>stuck
noncomputable def addD(x y:D):M D:=match x with
 | .int i=>(match y with
  | .int j=>ret (.int<|i+j)
  |_=>stuck)
 | .tup as=>(match y with
  | .tup bs=>(match as with
   |[]=>ret (.tup bs)
   |a::as=>λst=>if(a::as).length+bs.length<=1000000 then .ok (.tup<|a::as++bs) st else .bad)
  |_=>stuck)
 | .ref m=>(match y with
  | .ref n=>λst=>match st[m]?,st[n]? with
   |some (.lst as),some (.lst bs)=>if as.length+bs.length<=1000000 then alloc (as++bs) st else .bad
   |_,_=>.bad
  |_=>stuck)
 |_=>stuck
def uq(x y:D):M D:=match x with
 | .tup as=>(match y with
  | .int j=>(match as with
   |[]=>stuck
   |a::as=>if j=1 then ret (.tup<|a::as) else if j=0 then ret (.tup []) else if j=2/\(a::as).length<=1000 then ret (.tup<|(a::as)++(a::as)) else stuck)
  |_=>stuck)
 | .int i=>(match y with
  | .int j=>λst=>if((-big<i/\i<big)\/(-big<j/\j<big))\/(i.natAbs<2^1000/\j.natAbs<2^1000) then .ok (.int<|i*j) st else .bad
  |_=>stuck)
 | .ref m=>(match y with
  | .int j=>λst=>match st[m]? with
   |some (.lst xs)=>if 0<=j/\j<=1000/\xs.length<=1000 then alloc (replicate j.toNat xs).flatten st else .bad
   |_=>.bad
  |_=>stuck)
 |_=>stuck
def cj(op:Bo)(x y:D):M D:=match op with
 | .add=>addD x y
 | .sub=>ii (λi j=>ret<|.int<|i - j) x y
 | .mul=>uq x y
 | .fdiv=>ii (λi j st=>if j≠0/\j.natAbs<2^200 then .ok (.int<|i.fdiv j) st else .bad) x y
 | .mod=>ii (λi j st=>if j≠0 then .ok (.int<|i.fmod j) st else .bad) x y
 | .pow=>ii (λi j st=>if 0<=j/\j<=1000/\i.natAbs<1000 then .ok (.int<|i^j.toNat) st else .bad) x y
def cN(st:aV)(x:D):List D->Option Bool
 |[]=>some false
 |y::ys=>match dX 60 st y x,cN st x ys with
  |some a,some b=>some<|a||b
  |_,_=>none
noncomputable def jQ(o:D):M Unit:=λst=>match o with
 | .ref n=>match st[n]? with
  |some (.lst _)=>.ok () st
  |_=>.bad
 |_=>.bad
noncomputable def uD:D->Option Key
 | .int i=>some<|.inl i
 | .str s=>some<|.inr s
 |_=>none
noncomputable def oP(st:aV)(x y:D):Option Bool:=match y with
 | .ref n=>match st[n]? with
  |some (.dct kvs)=>match uD x with
   |some k=>some (d_ kvs k).isSome
   |none=>none
  |_=>none
 |_=>none
noncomputable def B_(x y:D):Option Bool:=match y with
 | .non=>some (match x with| .non=>true|_=>false)
 |_=>none
def bS(op:CmpOp)(x y:D):M D:=λst=>match op with
 | .Eq=>match dX 60 st x y with
  |some k=>.ok (.bl k) st
  |none=>.bad
 | .NotEq=>match dX 60 st x y with
  |some k=>.ok (.bl<|!k) st
  |none=>.bad
 | .Lt=>match x,y with
  | .int i,.int j=>.ok (.bl<|decide<|i<j) st
  |_,_=>.bad
 | .LtE=>match x,y with
  | .int i,.int j=>.ok (.bl<|decide<|i<=j) st
  |_,_=>.bad
 | .Gt=>match x,y with
  | .int i,.int j=>.ok (.bl<|decide<|j<i) st
  |_,_=>.bad
 | .In=>match bz st y with
  |some ys=>match cN st x ys with
   |some k=>.ok (.bl k) st
   |none=>.bad
  |none=>.bad
 | .NotIn=>match bz st y with
  |some ys=>match cN st x ys with
   |some k=>.ok (.bl<|!k) st
   |none=>.bad
  |none=>match oP st x y with
   |some k=>.ok (.bl<|!k) st
   |none=>.bad
 | .Is=>match B_ x y with
  |some k=>.ok (.bl k) st
  |none=>.bad
 | .IsNot=>match B_ x y with
  |some k=>.ok (.bl<|!k) st
  |none=>.bad
 |_=>.bad
noncomputable def CO(st:aV)(x:D)(k:Key):R D:=match x with
 | .ref n=>match st[n]? with
  |some (.dct kvs)=>match d_ kvs k with
   |some d=>.ok d st
   |none=>.bad
  |_=>.bad
 |_=>.bad
def index(x y:D):M D:=λst=>match x,y with
 |x,.int i=>match bz st x with
  |some xs=>match tX xs i with
   |some d=>.ok d st
   |none=>.bad
  |none=>CO st x<|.inl i
 |x,.str k=>CO st x<|.inr k
 |_,_=>.bad
def GS:D->Option (Key×D)
 | .tup xs=>(lB xs).bind λp=>(uD p.1).map λk=>(k,p.2)
 |_=>none
def qV:List D->Option (List<|Key×D)
 |[]=>some []
 |x::r=>(GS x).bind λp=>(qV r).map λq=>p::q
noncomputable def bw(kvs:List (Key×D))(k:Key)(v:D):List (Key×D):=if(kvs.any λkv=>decide<|kv.1=k) then kvs.map (λkv=>if kv.1=k then(kv.1,v) else kv) else kvs++[(k,v)]
noncomputable def xu(ps:List (Key×D)):List (Key×D):=ps.foldl (λacc p=>bw acc p.1 p.2) []
noncomputable def c8(st:aV):D->Option (List<|Key×D)
 | .ref n=>match st[n]? with
  |some (.dct kvs)=>some kvs
  |_=>none
 |_=>none
noncomputable def im:List D->Option (List Int)
 |[]=>some []
 |d::r=>match d with
  | .int i=>(im r).map (i:: ·)
  |_=>none
noncomputable def u9:List D->Option (List Bool)
 |[]=>some []
 |d::r=>match d with
  | .bl i=>(u9 r).map (i:: ·)
  |_=>none
noncomputable def sq:List D->Option (List Str)
 |[]=>some []
 |d::r=>match d with
  | .str i=>(sq r).map (i:: ·)
  |_=>none
noncomputable def dU(st:aV):D->Option (List D)
 | .ref n=>match st[n]? with
  |some (.lst xs)=>some xs
  |_=>none
 |_=>none
def t_(ns:List Str):M D:=λst=>if ns.length<64/\sortedS (dI ns)=true then alloc ((dI ns).map .str) st else .bad
noncomputable def mL:List (Key×D)->Option (List Str)
 |[]=>some []
 |p::r=>match p.1 with
  | .inr s=>(mL r).map (s:: ·)
  | .inl _=>none
def mm(f:Bt)(x:D):M D:=match f with
 | .sum=>λst=>match(dU st x).bind im with
  |some ns=>.ok (.int ns.sum) st
  |none=>.bad
 | .any=>λst=>match(dU st x).bind u9 with
  |some bs=>.ok (.bl<|bs.any id) st
  |none=>.bad
 | .max=>λst=>match(dU st x).bind im with
  |some (n::ns)=>.ok (.int<|L2.top n ns) st
  |_=>.bad
 | .sorted=>λst=>match dU st x with
  |some xs=>(match sq xs with
   |some ns=>t_ ns st
   |none=>.bad)
  |none=>match(c8 st x).bind mL with
   |some ns=>t_ ns st
   |none=>.bad
 | .len=>λst=>match bz st x with
  |some xs=>.ok (.int xs.length) st
  |none=>match c8 st x with
   |some kvs=>.ok (.int kvs.length) st
   |none=>.bad
 | .list=>λst=>match bz st x with
  |some xs=>alloc xs st
  |none=>.bad
 | .tuple=>λst=>match bz st x with
  |some xs=>.ok (.tup xs) st
  |none=>.bad
 | .int=>(match x with
  | .bl b=>ret (.int (if b then 1 else 0))
  |_=>stuck)
 | .dict=>(match x with
  | .tup xs=>λst=>match qV xs with
   |some ps=>.ok (.ref st.length) (st++[.dct<|xu ps])
   |none=>.bad
  |x=>λst=>match c8 st x with
   |some kvs=>.ok (.ref st.length) (st++[.dct kvs])
   |none=>.bad)
 |_=>stuck
noncomputable def EI(f:Bt)(x y:D):M D:=match f with
 | .max=>ii (λi j=>ret<|.int (if j>i then j else i)) x y
 | .min=>ii (λi j=>ret<|.int (if j<i then j else i)) x y
 |_=>stuck
def cK(f:Bt)(ds:List D):M D:=match ds with
 |[x]=>mm f x
 |[x,y]=>EI f x y
 |_=>stuck
inductive Src where
 |its (xs:List D)|at(n:Nat)|zp (x y:D)|dv (n:Nat)
noncomputable def bW(n:Nat):List D:=(range n).map λ(i:Nat)=>D.int (i:Int)
def cu(rng:Bool)(d:D):Option Src:=match rng,d with
 |true,.int j=>if -1000000<=j/\j<=1000000 then some (.its<|bW j.toNat) else none
 |false,.tup xs=>some<|.its xs
 |false,.fl xs=>some<|.its xs
 |false,.ref n=>some<|.at n
 |_,_=>none
noncomputable def dL(i:Int)(n:Nat):List D:=(range n).map λ(k:Nat)=>D.int<|i+(k:Int)
def iN:D->D->Option Src
 | .int i,.int j=>if(-1000000<=i/\i<=1000000)/\ -1000000<=j/\j<=1000000 then some (.its<|dL i (j - i).toNat) else none
 |_,_=>none
noncomputable def Ff:D->D->Option Src
 |x,y=>some<|.zp x y
noncomputable def iT(s:Src)(i:Nat)(st:aV):Option (Option D):=match s with
 | .its xs=>some xs[i]?
 | .at n=>match st[n]? with
  |some (.lst xs)=>some xs[i]?
  |_=>none
 | .dv n=>match st[n]? with
  |some (.dcf kvs)=>some<|kvs[i]?.map λp=>p.2
  |_=>none
 | .zp x y=>match bz st x,bz st y with
  |some xs,some ys=>some (match xs[i]?,ys[i]? with
   |some x,some y=>some (.tup [x,y])
   |_,_=>none)
  |_,_=>none
noncomputable def dn(s:Src)(st:aV):Nat:=match s with
 | .its xs=>xs.length
 | .at n=>match st[n]? with
  |some (.lst xs)=>xs.length
  |_=>0
 | .dv n=>match st[n]? with
  |some (.dcf kvs)=>kvs.length
  |_=>0
 | .zp x _=>match bz st x with
  |some xs=>xs.length
  |none=>0
def gY(f:D->M (Option D))(s:Src):Nat->Nat->List D->M (List D)
 |0,_,_=>stuck
 |k+1,i,acc=>λst=>match iT s i st with
  |some (some x)=>bg (f x) (λo=>match o with
   |some y=>gY f s k (i+1) (acc++[y])
   |none=>gY f s k (i+1) acc) st
  |some none=>.ok acc st
  |none=>.bad
def bY(f:D->M (Option D))(s:Src):M D:=λst=>if dn s st<=1000000 then bg (gY f s (dn s st+1) 0 []) alloc st else .bad
noncomputable def fh:D->Option Bool
 | .bl b=>some b
 |_=>none
noncomputable def pT:D->Option Int
 | .int i=>some i
 |_=>none
noncomputable def cutD(xs:List D)(lo hi:Option Int):List D:=(xs.drop<|HT.c_ xs.length 0 lo).take<|HT.c_ xs.length xs.length hi - HT.c_ xs.length 0 lo
def slice(x:D)(lo hi:Option Int):M D:=λst=>match x with
 | .tup xs=>.ok (.tup<|cutD xs lo hi) st
 |x=>match bz st x with
  |some xs=>alloc (cutD xs lo hi) st
  |none=>.bad
noncomputable def allocK(ks:List Str)(ds:List D):M D:=λst=>if ks.length=ds.length/\ks.Nodup then .ok (.ref st.length) (st++[.dct<|(ks.zip ds).map λp=>(Sum.inr p.1,p.2)]) else .bad
noncomputable def Ck(f:Str)(cs ics:List Str)(x:D):M D:=λst=>match x with
 | .ref n=>match st[n]? with
  |some (.ins c fs)=>match fs.lookup f with
   |some d=>if c∈ics then .ok d st else .bad
   |none=>.bad
  |_=>.bad
 |_=>.bad
noncomputable def sX(m:Str)(ms:List (Str×Nat))(x:D):M Nat:=λst=>match x with
 | .ref n=>match st[n]? with
  |some (.ins c fs)=>match fs.lookup m,ms.lookup c with
   |none,some j=>.ok j st
   |_,_=>.bad
  |_=>.bad
 |_=>.bad
inductive Rs where
 |v (d:D)|x (n:Nat)
noncomputable def Rs.val?:Rs->Option D
 | .v d=>some d
 | .x _=>none
abbrev ft:=Nat->List D->M Rs
def wO(g:ft)(x:Str)(f:Nat)(ds:List D):M D:=λst=>bg (g f<|.ref st.length::ds) (λr=>match r with
 | .v .non=>ret (.ref st.length)
 |_=>stuck) (st++[.ins x []])
noncomputable def w_(t:Ty)(x:D):M D:=λst=>match t with
 | .list=>(match x with
  | .ref n=>(match st[n]? with
   |some (.lst _)=>.ok (.bl true) st
   |_=>.bad)
  |_=>.bad)
 | .tuple=>(match x with
  | .tup _=>.ok (.bl true) st
  |_=>.bad)
 | .bool=>(match x with
  | .bl _=>.ok (.bl true) st
  |_=>.bad)
noncomputable def B8(cs:List Str)(x:D):M D:=λst=>match x with
 | .ref n=>match st[n]? with
  |some (.ins c' _)=>if c'∈cs then .ok (.bl true) st else .bad
  |_=>.bad
 |_=>.bad
noncomputable def m_:List (Key×D)->Option (List Int)
 |[]=>some []
 |(.inl n,_)::r=>(m_ r).map λns=>n::ns
 |_=>none
def A2(x:D):M D:=λst=>match c8 st x with
 |some kvs=>match m_ kvs with
  |some ns=>if ns.Pairwise (· < ·)/\kvs.length<64 then alloc ((ns.zip kvs).map λp=>.tup [.int p.1,p.2.2]) st else .bad
  |none=>.bad
 |none=>.bad
mutual
noncomputable def sT:D->Bool
 | .tup xs=>ig xs
 | .fl _=>false
 | .ref _=>false
 |_=>true
noncomputable def ig:List D->Bool
 |[]=>true
 |d::ds=>sT d&&ig ds
end
noncomputable def B4:Key->D
 | .inl i=>.int i
 | .inr s=>.str s
def rp(all:List (Key×D))(y:D):List (Key×D)->Option (List D)
 |[]=>some []
 |p::r=>(d_ all p.1).bind λd=>match dX 60 [] d y,rp all y r with
  |some b,some ks=>some (if b then B4 p.1::ks else ks)
  |_,_=>none
def zu(x y:D):M D:=λst=>match c8 st x with
 |some kvs=>if sT y=true/\ig (kvs.map (·.2))=true/\kvs.length<=1000 then(match rp kvs y kvs with
  |some ks=>alloc ks st
  |none=>.bad) else .bad
 |none=>.bad
def Cd(x y:D):M D:=λst=>match c8 st y with
 |some kvs=>match cN st x (kvs.map (·.2)) with
  |some k=>.ok (.bl k) st
  |none=>.bad
 |none=>.bad
def pairF(f:D->D->M D):D->M (Option D):=λx=>match x with
 | .tup [a,b]=>bg (f a b) λy=>ret<|some y
 |_=>stuck
noncomputable def rM(d:D):M Nat:=λst=>match d with
 | .ref n=>match st[n]? with
  |some (.dct kvs)=>.ok n<|st.set n<|.dcf kvs
  |_=>.bad
 |_=>.bad
noncomputable def qG(n:Nat)(x:D):M D:=λst=>match st[n]? with
 |some (.dcf kvs)=>.ok x<|st.set n<|.dct kvs
 |_=>.bad
def wR(x:D):M D:=λst=>match(dU st x).bind im with
 |some [a,b]=>.ok (.int (if b>a then b else a)) st
 |_=>.bad
def mK(f:D->D->D->M D):D->M (Option D):=λx=>match x with
 | .tup [a,b,c]=>bg (f a b c) λy=>ret<|some y
 |_=>stuck
noncomputable def qf(k1 v1 k2 v2:D):M D:=λst=>match k1 with
 | .str s1=>(match k2 with
  | .str s2=>if s1≠s2 then .ok (.ref st.length) (st++[.dct [(.inr s1,v1),(.inr s2,v2)]]) else .bad
  |_=>.bad)
 |_=>.bad
mutual
noncomputable def run(g:ft):Ex->Loc->M D
 | .c d,_=>ret d
 | .v i,loc=>eW<|loc[i]?.join
 | .tup es,loc=>bg (runs g es loc) λds=>ret<|.tup ds
 | .lst es,loc=>bg (runs g es loc) alloc
 | .emp,_=>allocD
 | .bin op a b,loc=>bg (run g a loc) λx=>bg (run g b loc) λy=>cj op x y
 | .not a,loc=>bg (run g a loc) λx=>bg (eW<|fh x) λb=>ret<|.bl<|!b
 | .and a b,loc=>bg (run g a loc) λx=>bg (eW<|fh x) λk=>if k then run g b loc else ret<|.bl false
 | .or a b,loc=>bg (run g a loc) λx=>bg (eW<|fh x) λk=>if k then ret (.bl true) else run g b loc
 | .cmp op a b,loc=>bg (run g a loc) λx=>bg (run g b loc) λy=>bS op x y
 | .chain op op' a b c,loc=>bg (run g a loc) λx=>bg (run g b loc) λy=>bg (bS op x y) λz=>bg (eW<|fh z) λk=>if k then bg (run g c loc) λw=>bS op' y w else ret<|.bl false
 | .ix a b,loc=>bg (run g a loc) λx=>bg (run g b loc) λy=>index x y
 | .sl a lo hi hl hh,loc=>bg (run g a loc) λx=>bg (if hl then bg (run g lo loc) λz=>bg (eW<|pT z) λi=>ret (some i) else ret none) λl=>
   bg (if hh then bg (run g hi loc) λz=>bg (eW<|pT z) λi=>ret (some i) else ret none) λh=>slice x l h
 | .fn f args,loc=>bg (runs g args loc) λds=>bg (g f ds) λr=>eW r.val?
 | .bt f args,loc=>bg (runs g args loc) λds=>cK f ds
 | .comp rng src elt,loc=>bg (run g src loc) λd=>bg (eW<|cu rng d) λs=>bY (λx=>bg (run g elt<|some x::loc) λy=>ret<|some y) s
 | .dict ks es,loc=>bg (runs g es loc) λds=>allocK ks ds
 | .fld a f cs ics,loc=>bg (run g a loc) λx=>Ck f cs ics x
 | .new x f args,loc=>bg (runs g args loc) λds=>wO g x f ds
 | .meth o m ms args,loc=>bg (run g o loc) λx=>bg (sX m ms x) λj=>bg (runs g args loc) λds=>bg (g j<|x::ds) λr=>eW r.val?
 | .compU src elt,loc=>bg (run g src loc) λd=>bg (eW<|cu false d) λs=>bY (pairF λa b=>run g elt<|some a::some b::loc) s
 | .sum3 src elt,loc=>bg (bg (run g src loc) λd=>bg (eW<|cu false d) λs=>bY (mK λa b c=>run g elt<|some a::some b::some c::loc) s) λx=>cK .sum [x]
 | .vmx o elt,loc=>bg (bg (run g o loc) λd=>bg (rM d) λn=>bg (bY (λx=>bg (run g elt<|some x::loc) λy=>ret<|some y)<|.dv n) λx=>qG n x) λx=>cK .max [x]
 | .vmd o elt,loc=>bg (bg (run g o loc) λd=>bg (rM d) λn=>bg (bY (λx=>bg (run g elt<|some x::loc) λy=>ret<|some y)<|.dv n) λx=>qG n x) λx=>wR x
 | .dict2 a b c d,loc=>bg (run g a loc) λk1=>bg (run g b loc) λv1=>bg (run g c loc) λk2=>bg (run g d loc) λv2=>qf k1 v1 k2 v2
 | .pop o,loc=>bg (run g o loc) λx=>Bv x
 | .compIf src test elt,loc=>bg (run g src loc) λd=>bg (eW<|cu false d) λs=>bY (λx=>bg (run g test<|some x::loc) λz=>bg (eW<|fh z) λk=>if k then bg (run g elt<|some x::loc) λy=>ret (some y) else ret none) s
 | .isk a c,loc=>bg (run g a loc) λx=>B8 c x
 | .isi a t,loc=>bg (run g a loc) λx=>w_ t x
 | .sit a,loc=>bg (run g a loc) λx=>A2 x
 | .keq i j,loc=>bg (eW<|loc[i]?.join) λx=>bg (eW<|loc[j]?.join) λy=>zu x y
 | .inV a b,loc=>bg (run g a loc) λx=>bg (run g b loc) λy=>Cd x y
noncomputable def runs(g:ft):List Ex->Loc->M (List D)
 |[],_=>ret []
 |e::es,loc=>bg (run g e loc) λd=>bg (runs g es loc) λds=>ret<|d::ds
end
inductive S where
 |ext (o e:Ex)|clr (o:Ex)|set (i:Nat)(e:Ex)|setix (o i e:Ex)|ret (e:Ex)|app (o e:Ex)
 |ite (c:Ex)(a b:List S)|for_ (i:Nat)(rng:Bool)(src:Ex)(body:List S)|for2 (i:Nat)(a b:Ex)(body:List S)
 |whil (c:Ex)(body:List S)
 |setf (o:Ex)(f:Str)(e:Ex)(cs ics:List Str)
 |forU (is:List Nat)(src:Ex)(body:List S)
 |forZ (is:List Nat)(a b:Ex)(body:List S)|unp (is:List Nat)(e:Ex)
 |stop
inductive Fl where
 |nx (loc:Loc)|rt (d:D)|ex (n:Nat)(loc:Loc)
def iO(o i v:D):M Unit:=λst=>match o with
 | .ref n=>match st[n]? with
  |some (.lst xs)=>match i with
   | .int k=>match Aw xs.length k with
    |some j=>.ok ()<|st.set n<|.lst<|xs.set j v
    |none=>.bad
   |_=>.bad
  |some (.dct kvs)=>match uD i with
   |some k=>if kvs.length<1000000 then .ok () (st.set n<|.dct<|bw kvs k v) else .bad
   |none=>.bad
  |_=>.bad
 |_=>.bad
noncomputable def append(o v:D):M Unit:=λst=>match o with
 | .ref n=>match st[n]? with
  |some (.lst xs)=>if xs.length<1000000 then .ok () (st.set n<|.lst<|xs++[v]) else .bad
  |_=>.bad
 |_=>.bad
noncomputable def extend(o v:D):M Unit:=λst=>match dU st o with
 |some xs=>(match v with
  | .tup ys=>(match o with
   | .ref n=>if xs.length+ys.length<=1000000 then .ok () (st.set n<|.lst<|xs++ys) else .bad
   |_=>.bad)
  |_=>.bad)
 |none=>.bad
noncomputable def iD(o:D):M Unit:=λst=>match o with
 | .ref n=>match st[n]? with
  |some (.lst _)=>.ok ()<|st.set n<|.lst []
  |some (.dct _)=>.ok ()<|st.set n<|.dct []
  |_=>.bad
 |_=>.bad
def mB(f:D->Loc->M Fl)(s:Src):Nat->Nat->Loc->M Fl
 |0,_,_=>stuck
 |k+1,i,loc=>λst=>match iT s i st with
  |some (some x)=>bg (f x loc) (λr=>match r with
   | .nx loc'=>mB f s k (i+1) loc'
   | .rt d=>ret (.rt d)
   | .ex n l=>ret<|.ex n l) st
  |some none=>.ok (.nx loc) st
  |none=>.bad
def fG(f:D->Loc->M Fl)(s:Src)(loc:Loc):M Fl:=λst=>mB f s (dn s st+1) 0 loc st
def kO(c:Loc->M D)(f:Loc->M Fl):Nat->Loc->M Fl
 |0,_=>stuck
 |k+1,loc=>bg (c loc) λx=>bg (eW<|fh x) λb=>if b then bg (f loc) (λr=>match r with
   | .nx loc'=>kO c f k loc'
   | .rt d=>ret (.rt d)
   | .ex n l=>ret<|.ex n l) else ret<|.nx loc
noncomputable def Ci:Nat:=1000000000
noncomputable def j7:List Nat->List D->Loc->Loc
 |i::is,d::ds,loc=>j7 is ds<|loc.set i<|some d
 |_,_,loc=>loc
def items?(n:Nat)(d:D):M (List D):=λst=>match bz st d with
 |some xs=>if xs.length=n then .ok xs st else .bad
 |none=>.bad
def pw(cs ics:List Str)(o:D)(f:Str)(v:D):M Unit:=λst=>match o with
 | .ref n=>match st[n]? with
  |some (.ins c fs)=>if fs.length<900/\c∈ics then .ok () (st.set n<|.ins c<|putD f v fs) else .bad
  |_=>.bad
 |_=>.bad
mutual
noncomputable def exec(g:ft):S->Loc->M Fl
 | .set i e,loc=>bg (run g e loc) λd=>ret<|.nx<|loc.set i<|some d
 | .setix o i e,loc=>bg (run g e loc) λd=>bg (run g o loc) λx=>bg (run g i loc) λk=>bg (iO x k d) λ_=>ret<|.nx loc
 | .ret e,loc=>bg (run g e loc) λd=>ret<|.rt d
 | .app o e,loc=>bg (run g o loc) λx=>bg (jQ x) λ_=>bg (run g e loc) λd=>bg (append x d) λ_=>ret<|.nx loc
 | .ext o e,loc=>bg (run g o loc) λx=>bg (jQ x) λ_=>bg (run g e loc) λd=>bg (extend x d) λ_=>ret<|.nx loc
 | .clr o,loc=>bg (run g o loc) λx=>bg (iD x) λ_=>ret<|.nx loc
 | .ite c a b,loc=>bg (run g c loc) λx=>bg (eW<|fh x) λk=>if k then execs g a loc else execs g b loc
 | .for_ i rng src body,loc=>bg (run g src loc) λd=>bg (eW<|cu rng d) λs=>fG (λx loc'=>execs g body<|loc'.set i<|some x) s loc
 | .for2 i a b body,loc=>bg (run g a loc) λx=>bg (run g b loc) λy=>bg (eW<|iN x y) λs=>fG (λx loc'=>execs g body<|loc'.set i<|some x) s loc
 | .whil c body,loc=>kO (run g c) (execs g body) Ci loc
 | .setf o f e cs ics,loc=>bg (run g e loc) λd=>bg (run g o loc) λx=>bg (pw cs ics x f d) λ_=>ret<|.nx loc
 | .forU is src body,loc=>bg (run g src loc) λd=>bg (eW<|cu false d) λs=>fG (λx loc'=>bg (items? is.length x) λds=>execs g body<|j7 is ds loc') s loc
 | .unp is e,loc=>bg (run g e loc) λd=>bg (items? is.length d) λds=>ret<|.nx<|j7 is ds loc
 | .forZ is a b body,loc=>bg (run g a loc) λx=>bg (run g b loc) λy=>bg (eW<|Ff x y) λs=>fG (λx loc'=>bg (items? is.length x) λds=>execs g body<|j7 is ds loc') s loc
 | .stop,_=>stuck
noncomputable def execs(g:ft):List S->Loc->M Fl
 |[],loc=>ret<|.nx loc
 |s::ss,loc=>bg (exec g s loc) λr=>match r with
  | .nx loc'=>execs g ss loc'
  | .rt d=>ret<|.rt d
  | .ex n l=>ret<|.ex n l
end
structure Fn where
 ar:Nat
 nl:Nat
 body:List S
noncomputable def tU(g:ft)(f:Fn)(ds:List D):M Rs:=if ds.length=f.ar then bg (execs g f.body<|ds.map some++replicate (f.nl - ds.length) none) λr=>match r with
  | .nx _=>ret<|.v .non
  | .rt d=>ret<|.v d
  | .ex n _=>ret<|.x n
 else stuck
noncomputable def calls(tab:List Fn):Nat->ft
 |0,_,_=>stuck
 |k+1,f,ds=>match tab[f]? with
  |some fn=>tU (calls tab k) fn ds
  |none=>stuck
end Ev
namespace PySem
open Builtin
def fc:fillsNumberSlot (.type "tuple") "mul"=pure false:=
 fillsNumberSlot_seq F.slot_tuple_mul.lookup (rfl) F.slot_tuple_rmul.lookup (rfl)
def iP:seqRepeat? (.type "tuple")=pure (some<|.builtin "tuple.__mul__"):=rfl
def dF(a:Int)(t:Tok)(l:Addr):
  Meets (Builtin.«int.__rmul__» ⟨[.int a t,.ref l],[]⟩) (λ_ R s=>s.TypeIs (.ref l) "tuple" /\(∃its,PyProof.Rows.IsTup s.heap l its)/\R (.ok<|.ret Value.notImplemented) s):=
 .of_wp λprog w A R s h=>by
  obtain⟨Y,⟨its,⟨c,dd,Z,sl⟩,ho,I,n,hd⟩,h⟩:=h;subst I hd;have J:=ho
  wp_walk
  exact⟨_,rfl,h⟩
def mo(t:Addr)(its:Array Value)(u:Tok):
  Meets (Builtin.«tuple.__mul__» ⟨[.ref t,.int 1 u],[]⟩) (λ_ R s=>PyProof.Rows.IsTup s.heap t its/\R (.ok<|.ret<|.ref t) s):=
 .of_wp λprog w A R s h=>by
  obtain⟨⟨⟨c,Z,J,sl⟩,ho,I,n,hd⟩,h⟩:=h
  replace hd:J=.seq its n:=hd
  subst I hd;have Y:=ho
  wp_walk
  exact⟨_,rfl,h⟩
def kZ(t:Addr)(its:Array Value)(u:Tok)(J:its.isEmpty=false):
  Meets (Builtin.«tuple.__mul__» ⟨[.ref t,.int 0 u],[]⟩) (λ_ R s=>PyProof.Rows.IsTup s.heap t its/\R (.ok<|.ret<|.ref s.heap.objs.size) {s with heap:=s.heap.push {cls:= .type "tuple",data:= .seq #[]}}):=
 .of_wp λprog w A R s h=>by
  obtain⟨hp,g,d,tk,os⟩:=s;obtain⟨⟨⟨c,dd,Z,sl⟩,ho,I,n,hd⟩,h⟩:=h
  replace hd:Z=.seq its n:=hd
  subst I hd;have hl:=ho;have Y:(its.isEmpty||(0:Int)==1)=false:=by rw[J];rfl
  refine aa<|wpAny_of_eq (a:=(0:Int)) rfl ?_;refine aa<|PyProof.Rows.tupleItemsOf_ ⟨_,ho,rfl,_,rfl⟩ ?_;simp only[Y,Bool.true_or,if_true,false_eq_true,if_false];refine aa<|wpAny_newObj_type ?_ (by exact zero_le _)
  exact ae ⟨_,rfl,h⟩
end PySem
namespace L2
def DG(K:aw):R2:=λx y H Q=>∃a k xs,x=.ref a/\y=.int k/\dY K H a xs/\xs≠[]/\((k=1/\Q (.ref a) H)\/(k=0/\∀p,H p=none->Q (.ref p) (upd H p<|.tup [])))
def sR:jM X (binaryOp .Mult) (DG X.K):=by
 intro pins s W H x y v u Q I Z Y h;obtain⟨a,k,xs,rfl,rfl,ha,hx,q⟩:=h;subst Z;obtain⟨t,rfl⟩:=Y;obtain⟨its,r,p,_⟩:=I.tuple ha;have hl:=r.length
 refine wpAny_binaryOp_repeat_ref (T:= "tuple") (U:= "int") (by decide) p.typeIs (λs'=>typeIs_int s' k t) fc F.fills_int_mul F.slot_int_rmul iP F.slot_int_index.lookup
  (call_meets F.slot_int_rmul (typeIs_int s k t) F.entry_int_rmul (F.args_int_rmul_2 _ _) (dF k t a) ⟨p.typeIs,⟨_,p⟩,rfl,p.typeIs,?_⟩)
 rcases q with⟨rfl,q⟩|⟨rfl,q⟩
 .exact call_meets F.slot_tuple_mul p.typeIs F.entry_tuple_mul (F.args_tuple_mul_2 _ _) (mo a its.toArray t) ⟨p,.ref a,H,I,rfl,q⟩
 .have J:its.toArray.isEmpty=false:=by
   cases its with
   |nil=>simp_all
   |cons=>rfl
  refine call_meets F.slot_tuple_mul p.typeIs F.entry_tuple_mul (F.args_tuple_mul_2 _ _) (kZ a its.toArray t J) ⟨p,?_⟩;refine⟨.ref s.heap.objs.size,_,I.laid (t':=s.toks) (o:= .tup []) (λb ob q=>ac _ q) (af _) ?_,rfl,q _<|I.hok.fresh<|af _⟩;exact⟨zero_le _,_,.nil,ko.new _ _⟩
end L2
namespace HT
def rW{E:Value->Shared->Prop}{s:Shared}{t z:Addr}{i j:Option Int}{Q:Value->Shared->Prop}(J:IsTup s.heap t is)(I:s.heap.IsSliceOf z a b .none)
  (Z:IsPart a i)(Y:IsPart b j)(h0:c_ is.size 0 i=0)(h1:c_ is.size is.size j=is.size)(q:Q (.ref t) s):wpAny (model prog w) A (getItem (.ref t)<|.ref z) Q E s:=by
 have hc:s.TypeIs (.ref z) "slice":=by obtain⟨o,e1,e2,_⟩:=id I;exact⟨o,e1,e2⟩
 have h:=J.typeIs;have S:=slot_tuple_getitem;unfold getItem
 try with_reducible refine wpAny_holding ?_
 first|refine aa (ae ?_)|skip
 refine aa<|wpAny_sequenceKey h (by decide)<|aa<|wpAny_callSpecial?_slot (name:=Str.ofString "__getitem__") h S<|wpAny_call_entry S h entry_tuple_getitem ?_<|args_tuple_getitem _ _
 show wpAny _ _ (Builtin.Tuple.tupleItemsOf (.ref t)>>=_) _ _ s;refine aa<|tupleItemsOf_ J<|aa<|wpAny_typeOf hc ?_;rw[if_pos (by decide)]
 refine aa<|eZ I Z Y ?_;rw[h0,h1,Nat.sub_zero];show wpAny _ _ (if(((0:Nat):Int)==0&&(1:Int)==1&&is.size==is.size)=true then _ else _) _ _ s
 rw[if_pos (by simp)]
 refine aa<|aa<|wpAny_typeOf h<|ae ?_;rw[if_pos (by decide)]
 exact aa<|wpAny_rule<|ae ⟨_,rfl,ae q⟩
end HT
namespace PySem
open Builtin PyProof.Rows
def t6(t:Addr)(its:Array Value)(u:Tok)(h0:its.isEmpty=false)(J:its.size<=1000):
  Meets (Builtin.«tuple.__mul__» ⟨[.ref t,.int 2 u],[]⟩) (λ_ R s=>IsTup s.heap t its/\R (.ok<|.ret<|.ref s.heap.objs.size) {s with heap:=s.heap.push {cls:= .type "tuple",data:= .seq (its++its)}}):=
 .of_wp λprog w A R s h=>by
  obtain⟨I,h⟩:=h;have sz:sizeLine=16777216:=sizeLine_eq;refine aa<|wpAny_of_eq (a:=(2:Int)) rfl ?_;refine aa<|tupleItemsOf_ I ?_;have n1:¬((its.size:Int)*2>(2^63 - 1) / 8):=by lia
  have n2:Tuple.tupleTooMany ((its.size:Int)*2)=false:=by
   unfold Tuple.tupleTooMany;rw[sz];exact decide_eq_false (by lia)
  simp only[h0,n1,n2,show((2:Int)==1)=false from rfl,show decide ((2:Int)<=0)=false from rfl,Bool.or_false,false_eq_true,if_false];rw[show(replicate (Int.toNat 2) its).foldl (λx y=>x++y) #[]=its++its by simp[replicate]]
  refine aa<|wpAny_newObj_type (ae ⟨_,rfl,h⟩) ?_;show(its++its).size<=sizeLine;rw[Array.size_append]
  lia
end PySem
namespace L2
def GR(K:aw):R2:=λx y H Q=>∃a xs,x=.ref a/\y=.int 2/\dY K H a xs/\xs≠[]/\xs.length<=1000/\∀p,H p=none->Q (.ref p) (upd H p<|.tup<|xs++xs)
def DP:jM X (binaryOp .Mult) (GR X.K):=by
 intro pins s W H x y v u Q I Y J h;obtain⟨a,xs,rfl,rfl,Z,hx,hl,q⟩:=h;subst Y;obtain⟨t,rfl⟩:=J;obtain⟨its,r,p,_⟩:=I.tuple Z;have e:=r.length;have sz:sizeLine=16777216:=sizeLine_eq
 refine wpAny_binaryOp_repeat_ref (T:= "tuple") (U:= "int") (by decide) p.typeIs (λs'=>typeIs_int s' 2 t) fc F.fills_int_mul F.slot_int_rmul iP F.slot_int_index.lookup
  (call_meets F.slot_int_rmul (typeIs_int s 2 t) F.entry_int_rmul (F.args_int_rmul_2 _ _) (dF 2 t a) ⟨p.typeIs,⟨_,p⟩,rfl,p.typeIs,?_⟩)
 refine call_meets F.slot_tuple_mul p.typeIs F.entry_tuple_mul (F.args_tuple_mul_2 _ _) (t6 a its.toArray t ?_ (by rw[size_toArray];lia)) ⟨p,.ref s.heap.objs.size,_,I.laid (t':=s.toks) (o:= .tup<|xs++xs) (λb ob q=>ac _ q) (af _) ?_,rfl,q _<|I.hok.fresh<|af _⟩
 .cases its with
  |nil=>simp_all
  |cons=>rfl
 .rw[List.append_toArray];exact⟨by rw[aD];lia,_,r.append r,ko.new _ _⟩
def AZ:EN X λx lo hi H Q=>∃a xs,x=.ref a/\dY X.K H a xs/\(HT.c_ xs.length 0 lo=0/\HT.c_ xs.length xs.length hi=xs.length)/\Q (.ref a) H:=by
 intro pins s W H x v vl vu lo hi sl Q I Z hs pl pu h;obtain⟨a,xs,rfl,hx,J,q⟩:=h;subst Z;obtain⟨its,r,Y,_⟩:=I.tuple hx;have e:its.toArray.size=xs.length:=by exact r.length.symm
 exact⟨"tuple",_,slot_tuple_getitem.lookup,Y.typeIs,HT.rW Y hs pl pu (by rw[e];exact J.1) (by rw[e];exact J.2) ⟨.ref a,H,I,rfl,q⟩⟩
end L2
namespace Ev
open L2
variable{v vx vy:V}{d x y:D}{vs:List V}{X:Cx}{st:aV}{G:Nat->Addr}{H:Hp}{m:Nat}{ux uy:Value}
def b_(K:aw)(H:Hp)(G:Nat->Addr)(st:aV)(r:R D)(Q:VK):Prop:=match r with
 | .ok d st'=>∀H' G' v,Ext H H' G G' st.length st'.length->Sim K H' G' st'->VRel K H' G' st'.length d v->Q v H'
 | .bad=>False
section
variable{K:aw}{H:Hp}{G:Nat->Addr}{st:aV}{Q:VK}
def b_.same(S:Sim K H G st)(P:b_ K H G st (.ok d st) Q)(r:VRel K H G st.length d v):Q v H:=P H G v (Ext.refl _ _ _) S r
def b_.mono{H1:Hp}{G1:Nat->Addr}{st1:aV}{r:R D}(P:b_ K H G st r Q)(E:Ext H H1 G G1 st.length st1.length):b_ K H1 G1 st1 r Q:=by
 cases r with
 |ok d st'=>exact λH' G' v E' I h=>P H' G' v (E.trans E') I h
 |bad=>exact P
theorem b_.alloc(S:Sim K H G st)(P:b_ K H G st (alloc xs st) Q)(r:VRels K H G st.length xs vs):∀p,H p=none->Q (.ref p) (upd H p<|.lst vs):=λp h=>by
 obtain⟨G',E,e,I⟩:=S.laid (o:= .lst xs) h<|λG' h1 Y=>⟨vs,aT,VRels.ext0 ⟨le_succ _,h1,λb xs e=>by rw[aq<|aE e h];exact e,λb J u e=>by rw[aq<|aE e h];exact e⟩ r⟩
 have l:(st++[O.lst xs]).length=st.length+1:=by simp
 refine P _ G' _ (by simp_all) I ?_
 rw[<-e,l];exact .ref<|aK _
theorem b_.allocD(S:Sim K H G st)(P:b_ K H G st (allocD st) Q):∀p,H p=none->Q (.ref p) (upd H p<|.dK []):=λp h=>by
 obtain⟨G',E,e,I⟩:=S.laid (o:= .dct []) h<|λG' h1 J=>⟨[],aT,.nil⟩;have l:(st++[O.dct []]).length=st.length+1:=by simp
 refine P _ G' _ (by simp_all) I ?_
 rw[<-e,l];exact .ref<|aK _
theorem b_.tup(S:Sim K H G st)(P:b_ K H G st (.ok (.tup xs) st) Q)(r:VRels K H G st.length xs vs):∀p,H p=none->Q (.ref p) (upd H p<|.tup vs):=λp I=>by
 have Z:∀n,n<st.length->G n≠p:=λn J=>by obtain⟨_,h,_⟩:=S.obj J;exact aE h I
 have E:Ext H (upd H p<|.tup vs) G G st.length st.length:=⟨⟨af _,λ_ _=>rfl,λb xs e=>by rw[aq<|aE e I];exact e,λb Y u e=>by rw[aq<|aE e I];exact e⟩,λb Y e k=>⟨by rw[aq<|aE e I];exact e,k⟩⟩
 refine P _ G _ E ⟨S.inj,λn o e=>?_⟩<|.tup (dY.of aT)<|r.ext E;have J:=(au e).1;have old:=S.ob n o e;exact old.move E.toExt0<|aq<|Z n J
def VRel.seq(S:Sim K H G st)(r:VRel K H G st.length d v)(e:bz st d=some xs):∃a vs,v=.ref a/\(dG K H a vs\/dY K H a vs)/\VRels K H G st.length xs vs:=by
 cases r with
 |tup h r=>cases e;exact⟨_,_,rfl,.inr h,r⟩
 |fl h r=>cases e;exact⟨_,_,rfl,.inl h.sql,r⟩
 | @ref n hn=>
  simp only[bz] at e;cases q:st[n]? with
  |none=>simp_all
  |some o=>
   rw[q] at e;cases o with
   |lst zs=>cases e;obtain⟨vs,h1,I⟩:=S.ob n _ q;exact⟨_,vs,rfl,.inl<|dG.of h1,I⟩
   |_=>cases e
 |_=>cases e
def VRels.inv1(r:VRels K H G st.length [d] vs):∃v,vs=[v]/\VRel K H G st.length d v:=by
 cases r with
 |cons h t=>cases t;exact⟨_,rfl,h⟩
end
def rD(K:aw)(op:D->D->M D):R2:=λvx vy H Q=>∃G st dx dy,Sim K H G st/\VRel K H G st.length dx vx/\VRel K H G st.length dy vy/\b_ K H G st (op dx dy st) Q
noncomputable def Bo.op:Bo->Operator
 | .add=> .Add
 | .sub=> .Sub
 | .mul=> .Mult
 | .fdiv=> .FloorDiv
 | .mod=> .Mod
 | .pow=> .Pow
theorem qb{K:aw}{H:Hp}{G:Nat->Addr}{m:Nat}{as:List D}{vs:List V}(r:VRels K H G m as vs):∀n:Nat,VRels K H G m (replicate n as).flatten (replicate n vs).flatten
 |0=>.nil
 |n+1=>by exact r.append<|qb r n
def wF:jM X (binaryOp .FloorDiv) (rI (λ_ j=>j≠0/\j.natAbs<2^200) λi j=>.int<|i.fdiv j):=wG λi j _ _ _ _ _ h q=>floordiv_int h.1 q (.inl (PyProof.noPylong_of_log2 (by
 have h0:j.natAbs≠0:=by have:=h.1;lia
 have:j.natAbs.log2<200:=(Nat.log2_lt h0).mpr h.2
 lia)))
def xM{E:Value->Shared->Prop}{s:Shared}{t b:Addr}{Z:List Value}{Q:Value->Shared->Prop}(ht:IsTup s.heap t ([]:List Value).toArray)(hb:IsTup s.heap b Z.toArray)(h:Q (.ref b) s):wpAny (model prog w) A (binaryOp .Add (.ref t)<|.ref b) Q E s:=by
 obtain⟨⟨cls,dd,data,sl⟩,ho,hc,n,hd⟩:=id ht;obtain⟨⟨cls2,dd2,data2,sl2⟩,I,Y,n2,J⟩:=id hb;subst hc hd Y J
 exact concat_meets ⟨_,ho,rfl⟩ ⟨_,I,rfl⟩ noFill_tuple_add seq_tuple_add PySem.F.slot_tuple_add PySem.F.entry_tuple_add (PySem.F.args_tuple_add_2 _ _)
   (tuple_addW0 t b _ Z.toArray n n2 dd dd2 sl sl2<|rfl) ⟨ho,I,h⟩
def y_:jM X (binaryOp .Mult) (rI (λi j=>CM i j\/(i.natAbs<2^1000/\j.natAbs<2^1000)) λi j=>.int<|i*j):=wG λ_ _ _ _ _ _ _ h q=>mul_int q (by
 rcases h with h|h
 .exact h.ok
 .exact .of_bits (ao (PyProof.Rows.intBits_le h.1) (by decide)) (ao (PyProof.Rows.intBits_le h.2) (by decide)))
def BQ(op:Bo):jM X (binaryOp op.op) (rD X.K<|cj op):=by
 intro pins s W H vx vy ux uy Q I Y J h;obtain⟨G,st,dx,dy,S,hx,hy,P⟩:=h;have sz:sizeLine=16777216:=sizeLine_eq;cases op with
 |add=>cases dx with
  |int i=>cases dy with
   |int j=>cases hx;cases hy;exact BR pins s W H _ _ _ _ Q I Y J ⟨_,_,rfl,rfl,b_.same S P<|.int _⟩
   |_=>exact False.elim P
  |tup as=>cases dy with
   |tup bs=>
    cases hx with
    |tup ha ra=>
     cases hy with
     |tup hb rb=>
      cases as with
      |nil=>cases ra;subst Y;subst J;obtain⟨its,r1,p1,_⟩:=I.tuple ha;obtain⟨its2,r2,p2,_⟩:=I.tuple hb;cases r1;exact xM p1 p2 ⟨.ref _,H,I,rfl,b_.same S P<|.tup hb rb⟩
      |cons a as=>
       simp only[cj,addD] at P;split at P
       .rename_i hl;have l1:=ra.length;have l2:=rb.length;refine zd pins s W H _ _ _ _ Q I Y J ⟨_,_,_,_,rfl,rfl,ha,hb,?_,by lia,λe=>?_,λe=>P.tup S<|ra.append rb⟩
        .intro z;rw[z] at l1;simp at l1
        .subst e;cases rb;rw[append_nil] at P;exact P.same S<|.tup ha ra
       .exact False.elim P
   |_=>exact False.elim P
  |ref m=>cases dy with
   |ref n=>
    simp only[cj,addD] at P;split at P
    .rename_i as bs e1 e2;split at P
     .rename_i hl;cases hx with
      |ref h1=>
       cases hy with
       |ref h2=>
        obtain⟨v1,g1,r1⟩:=S.ob _ _ e1;obtain⟨v2,g2,r2⟩:=S.ob _ _ e2;have l1:=r1.length;have l2:=r2.length;exact BP pins s W H _ _ _ _ Q I Y J ⟨_,_,_,_,rfl,rfl,g1,g2,by lia,P.alloc S<|r1.append r2⟩
     .exact False.elim P
    .exact False.elim P
   |_=>exact False.elim P
  |_=>exact False.elim P
 |sub=>cases dx with
  |int i=>cases dy with
   |int j=>cases hx;cases hy;exact BL pins s W H _ _ _ _ Q I Y J ⟨_,_,rfl,rfl,b_.same S P<|.int _⟩
   |_=>exact False.elim P
  |_=>exact False.elim P
 |mul=>cases dx with
  |int i=>cases dy with
   |int j=>
    simp only[cj,uq] at P;split at P
    .rename_i Z;cases hx;cases hy;exact y_ pins s W H _ _ _ _ Q I Y J ⟨_,_,rfl,rfl,Z,P.same S<|.int _⟩
    .exact False.elim P
   |_=>exact False.elim P
  |tup as=>cases dy with
   |int j=>
    cases as with
    |nil=>exact False.elim P
    |cons a as=>
     simp only[cj,uq] at P;cases hx with
     |tup ha ra=>
      cases hy;split at P
      .rename_i e;subst e;exact sR pins s W H _ _ _ _ Q I Y J ⟨_,_,_,rfl,rfl,ha,(by cases ra;simp),.inl ⟨rfl,b_.same S P<|.tup ha ra⟩⟩
      .split at P
       .rename_i e;subst e;exact sR pins s W H _ _ _ _ Q I Y J ⟨_,_,_,rfl,rfl,ha,(by cases ra;simp),.inr ⟨rfl,b_.tup S P .nil⟩⟩
       .split at P
        .rename_i Z;have l1:=ra.length;rw[Z.1] at J;refine DP pins s W H _ (.int 2) _ _ Q I Y J ⟨_,_,rfl,rfl,ha,(by cases ra;simp),by have:=Z.2;lia,b_.tup S P<|ra.append ra⟩
        .exact False.elim P
   |_=>exact False.elim P
  |ref m=>cases dy with
   |int j=>
    simp only[cj,uq] at P;split at P
    .rename_i xs q;split at P
     .rename_i Z;cases hx with
      |ref hn=>
       cases hy;obtain⟨vs,g1,r1⟩:=S.ob _ _ q;have l1:=r1.length;have hb:vs.length*j.toNat<=1000*1000:=Nat.mul_le_mul (by lia) (by lia)
       exact BM pins s W H _ _ _ _ Q I Y J ⟨_,_,_,rfl,rfl,g1,by lia,by omega,by lia,P.alloc S<|qb r1 _⟩
     .exact False.elim P
    .exact False.elim P
   |_=>exact False.elim P
  |_=>exact False.elim P
 |fdiv=>cases dx with
  |int i=>cases dy with
   |int j=>
    simp only[cj,ii] at P;split at P
    .rename_i Z;cases hx;cases hy;exact wF pins s W H _ _ _ _ Q I Y J ⟨_,_,rfl,rfl,Z,P.same S<|.int _⟩
    .exact False.elim P
   |_=>exact False.elim P
  |_=>exact False.elim P
 |mod=>cases dx with
  |int i=>cases dy with
   |int j=>
    simp only[cj,ii] at P;split at P
    .rename_i Z;cases hx;cases hy;exact zc pins s W H _ _ _ _ Q I Y J ⟨_,_,rfl,rfl,Z,P.same S<|.int _⟩
    .exact False.elim P
   |_=>exact False.elim P
  |_=>exact False.elim P
 |pow=>cases dx with
  |int i=>cases dy with
   |int j=>
    simp only[cj,ii] at P;split at P
    .rename_i Z;cases hx;cases hy;exact BN pins s W H _ _ _ _ Q I Y J ⟨_,_,rfl,rfl,⟨Z.1,by lia,by lia⟩,P.same S<|.int _⟩
    .exact False.elim P
   |_=>exact False.elim P
  |_=>exact False.elim P
open Classical in
noncomputable def uM(K:aw)(H:Hp)(G:Nat->Addr)(st:aV)(x:D)(z:Value):Bool:=if h:∃d,At K H G st.length d z then(dX 60 st h.choose x).getD false else false
def Cy{W:L2.St}(I:Inv X pins W H s)(S:Sim X.K H G st)(h:At X.K H G st.length y u):uM X.K H G st x u=(dX 60 st y x).getD false:=by unfold uM;have h':∃d,At X.K H G st.length d u:=⟨y,h⟩;rw[dif_pos h',h'.choose_spec.uniq I S h]
theorem l_{X:Cx}{W:L2.St}{H:Hp}{G:Nat->Addr}{st:aV}(I:Inv X pins W H s)(S:Sim X.K H G st){x:D}{ux:Value}{A:Around}(Y:At X.K H G st.length x ux)(J:A.units+60<cLine):
  ∀{ys:List D}{us:List Value}{k:Bool},cN st x ys=some k->ye X.K H G st.length ys us->(∀u∈us,SeqAt.EqAt A s u ux<|uM X.K H G st x u)/\us.any (uM X.K H G st x)=k
 |[],us,k,h,r=>by
  have l:=r.length;cases us with
  |cons _ _=>simp at l
  |nil=>exact⟨λu J=>(by cases J),ak h⟩
 |y::ys,us,k,h,r=>by
  have l:=r.length;cases us with
  |nil=>simp at l
  |cons u us=>
   obtain⟨_,Z,q1⟩:=r;cases q1 with
   |cons w1 w2=>
    cases Z with
    |cons m1 m2=>
     unfold cN at h;cases e1:dX 60 st y x with
     |none=>rw[e1] at h;simp at h
     |some a=>
      cases e2:cN st x ys with
      |none=>rw[e1,e2] at h;simp at h
      |some b=>
       obtain⟨he,hk⟩:=l_ I S Y J e2 ⟨_,m2,w2⟩;obtain⟨_,_,hE⟩:=jG I S 60 (A:=A) e1 ⟨_,m1,w1⟩ Y J;have ea:uM X.K H G st x u=a:=by rw[Cy I S ⟨_,m1,w1⟩,e1];rfl
       simp_all
def DRels.look{K:aw}{k:Key}{vs:List (Key×V)}(h:DRels K H G m kvs vs):
  (match d_ kvs k with|some d=>∃v,gt vs k=some v/\VRel K H G m d v|none=>gt vs k=none):=by
 induction h with
 |nil=>rfl
 | @cons k' d v ds vs hv t ih=>
  unfold d_;by_cases e:k'=k
  .rw[if_pos e];exact⟨v,gq e,hv⟩
  .rw[if_neg e,d9 e];exact ih
def oy{K:aw}{k:Key}(h:uD x=some k)(r:VRel K H G m x v):v=kV k:=by cases r<;>cases h<;>rfl
def iw{K:aw}{k:Bool}(e:B_ x y=some k)(Y:VRel K H G m x vx)(J:VRel K H G m y vy)(h:RelV vx ux)(I:RelV vy uy):plainIs ux uy=true/\(ux==uy)=k:=by
 unfold B_ at e;split at e
 .cases J;subst I;have e:=ak e;subst e;cases Y with
  |bl b=>subst h;trivial
  |int i=>obtain⟨t,rfl⟩:=h;exact⟨rfl,rfl⟩
  |str i=>obtain⟨t,rfl⟩:=h;trivial
  |tup _ _=>subst h;trivial
  |_=>subst h;exact⟨rfl,rfl⟩
 .cases e
def lX{K:aw}(S:Sim K H G st)(e:c8 st y=some kvs)(h:VRel K H G st.length y vy):∃n a vs,y=.ref n/\st[n]? =some (.dct kvs)/\a=G n/\vy=.ref a/\H a=some (.dK vs)/\DRels K H G st.length kvs vs:=by
 cases y with
 |ref n=>
  simp only[c8] at e;cases q:st[n]? with
  |none=>simp_all
  |some o=>
   rw[q] at e;cases o with
   |dct kvs'=>cases e;cases h;obtain⟨vs,h1,r⟩:=S.ob _ _ q;exact⟨n,_,vs,rfl,q,rfl,rfl,h1,r⟩
   |_=>cases e
 |_=>cases e
def uQ{K:aw}{k:Bool}(S:Sim K H G st)(e:oP st x y=some k)(I:VRel K H G st.length x vx)(h:VRel K H G st.length y vy):∃a,vy=.ref a/\∃o,mh H a vx o/\o.isSome=k:=by
 unfold oP at e;split at e
 .split at e
  .rename_i kvs q;cases h;obtain⟨vs,h1,r⟩:=S.ob _ _ q;refine⟨_,rfl,?_⟩;split at e
   .rename_i s Y;have e:=ak e;subst e;have J:=oy Y I;subst J;refine⟨_,mh.k h1,?_⟩;have l:=r.look (k:=s);cases q2:d_ kvs s with
    |none=>simp_all
    |some d=>rw[q2] at l;obtain⟨v,l,_⟩:=l;simp_all
   .cases e
  .cases e
 .cases e
def jw(hu:X.A.units+100<cLine)(op:CmpOp):jM X (compareOp op) (rD X.K<|bS op):=by
 intro pins s W H vx vy ux uy Q I rx Y h;obtain⟨G,st,dx,dy,S,hx,Z,P⟩:=h;have ax:At X.K H G st.length dx ux:=⟨_,hx,rx⟩;have ay:At X.K H G st.length dy uy:=⟨_,Z,Y⟩;unfold bS at P;split at P
 .split at P
  .rename_i k e;obtain⟨h1,_,_⟩:=jG I S 60 (A:=X.A) e ax ay (by omega)
   exact h1 _ _ _ _ ⟨.bl k,H,I,rfl,P.same S<|.bl k⟩
  .exact False.elim P
 .split at P
  .rename_i k e;obtain⟨_,h1,_⟩:=jG I S 60 (A:=X.A) e ax ay (by omega)
   exact h1 _ _ _ _ ⟨.bl<|!k,H,I,rfl,P.same S<|.bl<|!k⟩
  .exact False.elim P
 .split at P
  .cases hx;cases Z;exact DQ pins s W H _ _ _ _ Q I rx Y ⟨_,_,rfl,rfl,P.same S<|.bl _⟩
  .exact False.elim P
 .split at P
  .cases hx;cases Z;exact DR pins s W H _ _ _ _ Q I rx Y ⟨_,_,rfl,rfl,P.same S<|.bl _⟩
  .exact False.elim P
 .split at P
  .cases hx;cases Z;exact DS pins s W H _ _ _ _ Q I rx Y ⟨_,_,rfl,rfl,P.same S<|.bl _⟩
  .exact False.elim P
 .split at P
  .rename_i ys es;split at P
   .rename_i k ek;obtain⟨a,vs,rfl,J,rv⟩:=Z.seq S es;cases Y;rcases J with J|J
    .obtain⟨its,r',pl,hz⟩:=I.list J;obtain⟨hE,hk⟩:=l_ I S (A:=X.A.in1) ax (by show X.A.units+1+60<cLine;omega) ek ⟨_,rv,r'⟩
     refine SeqAt.in_listAt _ pl.isList (λw hw=>hE w (by simpa using hw)) ⟨.bl _,H,I,rfl,?_⟩
     rw[show its.toArray.any (uM X.K H G st dx)=its.any (uM X.K H G st dx) by simp,hk]
     exact P.same S<|.bl k
    .obtain⟨its,r',pl,hz⟩:=I.tuple J;obtain⟨hE,hk⟩:=l_ I S (A:=X.A.in1) ax (by show X.A.units+1+60<cLine;omega) ek ⟨_,rv,r'⟩
     refine SeqAt.in_tupleAt _ pl (λw hw=>hE w (by simpa using hw)) ⟨.bl _,H,I,rfl,?_⟩
     rw[show its.toArray.any (uM X.K H G st dx)=its.any (uM X.K H G st dx) by simp,hk]
     exact P.same S<|.bl k
   .exact False.elim P
  .exact False.elim P
 .split at P
  .rename_i ys es;split at P
   .rename_i k ek;obtain⟨a,vs,rfl,J,rv⟩:=Z.seq S es;cases Y;rcases J with J|J
    .obtain⟨its,r',pl,hz⟩:=I.list J;obtain⟨hE,hk⟩:=l_ I S (A:=X.A.in1) ax (by show X.A.units+1+60<cLine;omega) ek ⟨_,rv,r'⟩
     refine SeqAt.notIn_listAt _ pl.isList (λw hw=>hE w (by simpa using hw)) ⟨.bl _,H,I,rfl,?_⟩
     rw[show its.toArray.any (uM X.K H G st dx)=its.any (uM X.K H G st dx) by simp,hk]
     exact P.same S<|.bl<|!k
    .obtain⟨its,r',pl,hz⟩:=I.tuple J;obtain⟨hE,hk⟩:=l_ I S (A:=X.A.in1) ax (by show X.A.units+1+60<cLine;omega) ek ⟨_,rv,r'⟩
     refine SeqAt.notIn_tupleAt _ pl (λw hw=>hE w (by simpa using hw)) ⟨.bl _,H,I,rfl,?_⟩
     rw[show its.toArray.any (uM X.K H G st dx)=its.any (uM X.K H G st dx) by simp,hk]
     exact P.same S<|.bl<|!k
   .exact False.elim P
  .split at P
   .rename_i k ek;obtain⟨a,rfl,hg⟩:=uQ S ek hx Z;subst Y;obtain⟨o,g,ho⟩:=hg;exact zV (by lia) I g rx λs' I'=>⟨.bl<|!k,H,I',by rw[ho];rfl,P.same S<|.bl<|!k⟩
   .exact False.elim P
 .split at P
  .rename_i k e;obtain⟨h1,h2⟩:=iw e hx Z rx Y;exact wpAny_is_plain h1 ⟨.bl k,H,I,by rw[h2];rfl,P.same S<|.bl k⟩
  .exact False.elim P
 .split at P
  .rename_i k e;obtain⟨h1,h2⟩:=iw e hx Z rx Y;exact wpAny_isNot_plain h1 ⟨.bl<|!k,H,I,by rw[h2];rfl,P.same S<|.bl<|!k⟩
  .exact False.elim P
 .exact False.elim P
def z9{K:aw}{ds:List D}{i:Int}(r:VRels K H G m ds vs)(e:tX ds i=some d):∃v,tX vs i=some v/\VRel K H G m d v:=by
 unfold tX at e ⊢;rw[<-r.length];cases q:Aw ds.length i with
 |none=>simp_all
 |some j=>rw[q] at e;exact r.get e
def xD(hu:X.A.units+100<cLine){value slice:Expr}{W:L2.St}{Q:VK}{k:Key}(I:L2.Inv X pins W H s)(S:Sim X.K H G st)(Z:VRel X.K H G st.length dx vx)
  (Y:RelV vx ux)(J:RelV (kV k) uy)(hs:subscripted slice false ux uy=operate [ux,uy] (getItem ux uy))(P:b_ X.K H G st (CO st dx k) Q):wpAny (model X.prog X.w) X.A (subscriptTail value slice ux uy) (EP X pins W Q) X.xe s:=by
 unfold CO at P;split at P
 .rename_i n;split at P
  .rename_i kvs e1;split at P
   .rename_i d ek;cases Z;subst Y;obtain⟨vs,h1,r⟩:=S.ob _ _ e1;have l:=r.look (k:=k);rw[ek] at l;obtain⟨w,ew,h⟩:=l;have g:mh H (G n) (kV k) (some w):=by rw[<-ew];exact mh.k (k:=k) h1
    exact tail_any (jW I g) PySem.F.slot_dict_getitem.lookup (np (by lia) I g J λw' s' I' rw2=>⟨w,H,I',rw2,P.same S h⟩) hs
   trivial
  trivial
 trivial
def FT(hu:X.A.units+100<cLine):EW X (rD X.K index):=by
 intro value slice pins s W H vx vy ux uy Q I rx Z h hs;obtain⟨G,st,dx,dy,S,hx,hy,P⟩:=h;unfold index at P;split at P
 .split at P
  .rename_i xs es;split at P
   .rename_i d ed;cases hy;obtain⟨a,vs,rfl,Y,rv⟩:=hx.seq S es;obtain⟨w,ew,J⟩:=z9 rv ed;rcases Y with Y|Y
    .exact zv value slice pins s W H _ _ _ _ Q I rx Z ⟨_,_,_,_,rfl,rfl,Y,ew,P.same S J⟩ hs
    .exact B7 value slice pins s W H _ _ _ _ Q I rx Z ⟨_,_,_,_,rfl,rfl,Y,ew,P.same S J⟩ hs
   .exact False.elim P
  .cases hy;exact xD (k:= .inl _) hu I S hx rx Z hs P
 .cases hy;exact xD (k:= .inr _) hu I S hx rx Z hs P
 .exact False.elim P
end Ev
namespace PySem
section
end
end PySem
namespace L2
end L2
namespace PySem
namespace F
def fC:plainId "dict.update.loop"=true:=by decide+kernel
def lT:entryFor table "dict.update.loop"=some Builtin.«dict.update.loop»:=entryFor_of_fast (by kernel_rfl)
end F
section
variable{prog:Program}{w:World}{K:Type}[DecidableEq K]{kn:KeyKind prog w K}
def rY(kn:KeyKind prog w K)(h:Heap)(items:Array Value)(ps:List (K×Value)):Prop:=
 items.size=ps.length/\∀(j:Nat)(x:K×Value),ps[j]? =some x->∃(t:Addr)(o:Obj)(n:Nat) (u:Value),items[j]? =some (.ref t)/\h.get? t=some o/\o.cls=.type "tuple" /\o.data=.seq #[u,x.2] n/\kn.is x.1 u=true
noncomputable def f7(ps acc:List (K×Value)):List (K×Value):=ps.foldl (λacc x=>stored acc x.1 x.2) acc
theorem ng:∀(ps acc:List (K×Value)),(f7 ps acc).length<=acc.length+ps.length
 |[],acc=>by show acc.length<=_;lia
 |x::r,acc=>by
  have h1:=ng r<|stored acc x.1 x.2;have h:(stored acc x.1 x.2).length<=acc.length+1:=by unfold stored;split<;>simp
  show(f7 r<|stored acc x.1 x.2).length<=_;rw[length_cons];lia
def rN{ps acc:List (K×Value)}{x:K×Value}:f7 (ps++[x]) acc=stored (f7 ps acc) x.1 x.2:=by unfold f7;simp
end
end PySem
namespace L2
def Gb(K:aw)(H:Hp):List (Key×V)->List V->Prop:=Paired λp y=>∃t,y=.ref t/\dY K H t [kV p.1,p.2]
def Cm(ps:List (Key×V)):List (Key×V):=ps.foldl (λacc p=>putK acc p.1 p.2) []
section
variable{X:Cx}{pins:List (Addr×Obj)}{s:Shared}{W:St}{H:Hp}
def ul(I:Inv X pins W H s){ps:List (Key×V)}(r:Gb X.K H ps ys):∀{us:List Value},bq ys us->∃h:List (Key×Value),rY (bD X.prog X.w) s.heap us.toArray h/\KV ps h:=by
 induction r with
 |nil=>intro us q;cases q;exact⟨[],⟨rfl,λj x e=>by simp at e⟩,.nil⟩
 | @cons p y ps ys h1 t ih=>
  intro us q;cases q with
  | @cons _ u _ us' q1 q2=>
   obtain⟨h,⟨g1,g2⟩,Z⟩:=ih q2;obtain⟨ta,rfl,Y⟩:=h1;obtain rfl:u=Value.ref ta:=q1;obtain⟨its,rv,⟨o,k1,k2,n,J⟩,_⟩:=I.tuple Y;cases rv with
   | @cons _ u1 _ its r1 rv=>
    cases rv with
    | @cons _ u2 _ its r2 rv=>
     cases rv;refine⟨(p.1,u2)::h,⟨by simpa using g1,λj x e=>?_⟩,.cons ⟨rfl,r2⟩ Z⟩
     cases j with
     |zero=>
      cases e;exact⟨ta,o,n,u1,by simp,k1,k2,J,m6 r1⟩
     |succ j=>
      simp_all
def zq{ps:List (Key×V)}(r:KV ps I):∀{acc:List (Key×V)}{xs:List (Key×Value)},KV acc xs->KV (ps.foldl (λacc p=>putK acc p.1 p.2) acc) (f7 I xs):=by
 induction r with
 |nil=>intro acc xs q;exact q
 | @cons p q ps qs h t ih=>
  intro acc xs z;show KV _<|f7 qs _;have:=z.put p.1 h.2
  simp_all
theorem lR:∀(ps acc:List (Key×V)),(ps.foldl (λacc p=>putK acc p.1 p.2) acc).length<=acc.length+ps.length
 |[],acc=>by simp
 |p::r,acc=>by have h1:=lR r<|putK acc p.1 p.2;have h:=eK acc p.1 p.2;rw[foldl_cons,length_cons];lia
end
end L2
namespace PySem
variable{h h':Heap}
section
variable{prog:Program}{w:World}{A:Around}{E:Value->Shared->Prop}{s:Shared}{it t:Addr}{i:Nat}{items:Array Value}{Q:Value->Shared->Prop}
def vJ(h:s.heap.IsTupleIter it t i)(Z:s.heap.IsTuple t items)(Y:items[i]? =some x)(hQ:∀h',h'.IsTupleIter it t (i+1)->Heap.SameBut it s.heap h'->Q x {s with heap:=h'}):
  wpAny (model prog w) A (Builtin.SmallTypes.nextOf<|.ref it) Q E s:=by
 obtain⟨o,ho,hc,hd⟩:=id h;obtain⟨ol,I,_,nl,J⟩:=Z;refine aa<|wpAny_callSpecial?_slot (name:=Str.ofString "__next__") h.typeIs F.slot_tuple_iterator_next<|wpAny_call_entry F.slot_tuple_iterator_next h.typeIs F.entry_tuple_iterator_next ?_<|F.args_tuple_iterator_next_1 _;refine aa (m:=field (.ref it) 0)<|bc ho hd (x:= .ref t) rfl ?_;refine aa (m:=field (.ref it) 1)<|bc ho hd (x:= .int i 0) rfl ?_;refine aa (m:=seqItems?<|.ref t)<|wpAny_seqItems I J ?_;simp only[toNat_natCast,Y];refine aa<|wpAny_setField ho hd (by simp)<|ae ⟨x,rfl,ae<|hQ _ ⟨_,Heap.get?_update_self _ ho<|Obj.isFreed_of_fields<|Obj.data_mapFields hd _,(Obj.cls_mapFields ..).trans hc,?_⟩<|Heap.SameBut.update ..⟩
 rw[Obj.data_mapFields hd];simp[rawInt]
def yq(hh:A.handled=none)(h:s.heap.IsTupleIter it t i)(Z:s.heap.IsTuple t items)(Y:items[i]? =none)
  (hE:∀h' e,Heap.ExtBut it s.heap h'->(∃o,h'.get? e=some o/\o.cls=.type "StopIteration")->E (.ref e) {s with heap:=h'}):wpAny (model prog w) A (Builtin.SmallTypes.nextOf<|.ref it) Q E s:=by
 obtain⟨o,ho,hc,hd⟩:=id h;obtain⟨ol,I,_,nl,J⟩:=Z;unfold Builtin.SmallTypes.nextOf;refine aa<|wpAny_callSpecial?_slot (name:=Str.ofString "__next__") h.typeIs F.slot_tuple_iterator_next<|wpAny_call_entry F.slot_tuple_iterator_next h.typeIs F.entry_tuple_iterator_next ?_<|F.args_tuple_iterator_next_1 _;refine aa (m:=field (.ref it) 0)<|bc ho hd (x:= .ref t) rfl ?_;refine aa (m:=field (.ref it) 1)<|bc ho hd (x:= .int i 0) rfl ?_;refine aa (m:=seqItems?<|.ref t)<|wpAny_seqItems I J ?_;simp only[toNat_natCast,Y];refine aa<|wpAny_rule<|aa<|wpAny_setField ho hd (by simp)<|aa (m:=newExc (.type "StopIteration") []) ?_
 unfold newExc newTuple;refine aa<|wpAny_newObj_type (aa (m:=firstArgMember _ _)<|wpAny_of_eq (a:=Value.none) (by first|rfl|(simp only[firstArgMember];rfl))<|wpAny_newObj_type ?_ (by size_fits)) (by size_fits)
 unfold raiseNew;refine aa<|wpAny_handled ?_;rw[show A.in1.handled=none from hh];exact aa<|ae<|wpAny_throw<|hE _ _ (((Heap.SameBut.update ..).extBut.push _).push _) ⟨_,aj _ rfl,rfl⟩
def iF{a:Addr}(x:h.IsTuple a items)(k:∀o,h.get? a=some o->h'.get? a=some o):h'.IsTuple a items:=let⟨o,ho,r⟩:=x;⟨o,k o ho,r⟩
def hU{a b:Addr}(x:h.IsTupleIter a b i)(k:∀o,h.get? a=some o->h'.get? a=some o):h'.IsTupleIter a b i:=let⟨o,ho,r⟩:=x;⟨o,k o ho,r⟩
end
end PySem
namespace L2
end L2
namespace PySem
def oo:typeLookup (.type "tuple") "keys"=pure none:=by rw[typeLookup_type,builtinLookup_eq_fast];kernel_rfl
section
variable{prog:Program}{w:World}{K:Type}[DecidableEq K]{kn:KeyKind prog w K}{A:Around}{E:Value->Shared->Prop}
def oj{R:Result->Shared->Prop}(hh:A.handled=none){h0:Heap}{d it l:Addr}(hd0:h0.get? d=none)(hi0:h0.get? it=none)(Y:d≠it){items:Array Value}{ps:List (K×Value)}(hsz:items.size<=sizeLine)
  (hl:h0.IsTuple l items)(hp:rY kn h0 items ps):∀(k i:Nat)(s:Shared),items.size - i=k->i<=items.size->s.heap.IsTupleIter it l i->(∀b o,h0.get? b=some o->s.heap.get? b=some o)->s.heap.DictOf kn d (f7 (ps.take i) [])->
  (∀h' tk,h'.DictOf kn d (f7 ps [])->(∀b o,h0.get? b=some o->h'.get? b=some o)->R (.ok<|.ret .none) {s with heap:=h',toks:=tk})->
  codeAny (model prog w) A (.builtin "dict.update.loop" ⟨[.ref d,.ref it,rawInt i,.none],[]⟩) R s:=by
 have nd:∀{b:Addr}{o:Obj},h0.get? b=some o->b≠d:=λe z=>by rw[z,hd0] at e;cases e
 have ni:∀{b:Addr}{o:Obj},h0.get? b=some o->b≠it:=λe z=>by rw[z,hi0] at e;cases e
 intro k
 induction k with
 |zero=>
  intro i s hk hi J kp hd hR;have hin:i=items.size:=by lia
  subst hin;refine codeAny_builtin F.lT ?_;rw[Around.under_plainId F.fC _];show wpAny _ A.in1 (pyNext (.ref it)>>=_) _ _ s;refine aa<|wpAny_pyNext_tuple_end hh J (iF hl λo e=>kp _ _ e) (by simp) λh' eb=>?_
  show wpAny _ _ (Builtin.Dict.addKeywords d []>>=_) _ _ _;refine aa<|ae<|ae ?_;rw[hp.1,take_length] at hd;exact hR h' s.toks (hd.at λo e=>eb d o Y e)<|λb o e=>eb b o (ni e)<|kp b o e
 |succ k ih=>
  intro i s hk hi J kp hd hR;have hlt:i<items.size:=by lia
  have Z:i<ps.length:=by rw[<-hp.1];exact hlt
  obtain⟨t,ot,nt,u,e1,e2,e3,e4,e5⟩:=hp.2 i ps[i] (by simp[Z])
  refine codeAny_builtin F.lT ?_;rw[Around.under_plainId F.fC _];show wpAny _ A.in1 (pyNext (.ref it)>>=_) _ _ s;refine aa<|wpAny_pyNext_tuple_item J (iF hl λo e=>kp _ _ e) e1 λh1 hit1 I=>?_
  replace I:Heap.SameBut it s.heap h1:=I
  have kp1:∀b o,h0.get? b=some o->h1.get? b=some o:=λb o e=>I.extBut b o (ni e)<|kp b o e;have t1:h1.get? t=some ot:=kp1 t ot e2;refine aa<|wpAny_holding<|aa<|wpAny_tryCatch ?_;unfold Builtin.Dict.pairItems;refine aa<|wpAny_typeOf (T:= "tuple") ⟨ot,t1,e3⟩ ?_;rw[if_pos (by decide)]
  refine aa<|wpAny_seqItems t1 e4<|ae ?_;show wpAny _ _ (holding [u,ps[i].2]<|dictSet d u ps[i].2) _ _ _;have hd1:h1.DictOf kn d (f7 (ps.take i) []):=hd.at λo e=>I.extBut d o Y e;have fl:=ng (ps.take i) ([]:List (K×Value))
  have hfl:(f7 (ps.take i) []).length<=sizeLine:=by rw[length_take] at fl;simp at fl;omega
  refine wpAny_holding<|wpAny_dictSet_pairs (s:={s with heap:=h1}) e5 hd1 (λh2 hd2 h=>?_) hfl
  replace h:Heap.SameBut d h1 h2:=h
  refine ae ⟨plainId_quiet F.fC _,?_⟩;have c1:((i+1:Nat):Int)=(i:Int)+1:=by lia
  have ht:ps.take (i+1)=ps.take i++[ps[i]]:=by rw[List.take_succ,aA Z];rfl
  rw[<-rN,<-ht] at hd2;have:=λtk=>ih (i+1) {s with heap:=h2,toks:=tk} (by lia) (by lia) (hU hit1 λo q=>(h.2 it<|Ne.symm Y).trans q) (λb o e=>(h.2 b<|nd e).trans<|kp1 b o e) hd2 hR
  rw[c1] at this;exact this _
def t7{s:Shared}{a:Addr}{xs:Array Value}{k:Nat}{sl:Array (Option Value)}{Q:Option Value->Shared->Prop}(J:s.heap.get? a=some {cls:= .type "tuple",dict:=none,data:= .seq xs k,slots:=sl})(hA:A.handled=none)
  (h:∀h' tk,(∀b o,s.heap.get? b=some o->h'.get? b=some o)->Q none {s with heap:=h',toks:=tk}):wpAny (model prog w) A (getAttr? (.ref a) "keys") Q E s:=by
 obtain⟨Z,g,d,tk,os⟩:=s;have Y:∀tk',(⟨Z,g,d,tk',os⟩:Shared).TypeIs (.ref a) "tuple":=λ_=>⟨_,J,rfl⟩;have f1:=sub_AttributeError;have f3:=F.slot_tuple_getattribute.lookup;have f4:=F.slot_tuple_getattribute.bind<|.ref a;have f5:=am_tuple_getattr_none;unfold getAttr? getAttrBy? getAttrBy
 iterate 29 (any_goals (first|assumption|exact Y _|wp_step))
 refine call_meets F.slot_tuple_getattribute (Y _) am_entry_tuple_getattribute (F.args_tuple_getattribute_2 _ _) (meets_getattribute_miss_tuple a xs k sl "keys" _ oo (by decide+kernel) (by size_fits)) ⟨J,hA,λh' tk' e I=>?_⟩
 obtain⟨t',u',he⟩:=I.there;show wpAny _ _ (getattributeRaised _ _ _ _ _ _ _) _ _ _;unfold getattributeRaised
 repeat (any_goals (first|assumption|wp_step))
 exact h _ _ I.keeps
def kj{s:Shared}{l:Addr}{items:Array Value}{c:Nat}{sl:Array (Option Value)}{ps:List (K×Value)}{Q:Value->Shared->Prop}(hh:A.handled=none)(hl:s.heap.get? l=some {cls:= .type "tuple",dict:=none,data:= .seq items c,slots:=sl})(hp:rY kn s.heap items ps)(hsz:items.size<=sizeLine)
  (hQ:∀h' tk,h'.DictOf kn s.heap.objs.size (f7 ps [])->(∀b o,s.heap.get? b=some o->h'.get? b=some o)->Q (.ref s.heap.objs.size) {s with heap:=h',toks:=tk}):wpAny (model prog w) A (call (.type "dict") [.ref l]) Q E s:=by
 refine callType_codes (Q₁:=λobj s₁=>obj=.ref s.heap.objs.size/\s₁={s with heap:=s.heap.push {cls:= .type "dict",data:= .dict #[]}}) F.kt_called_dict (F.kt_typeCall_dict_1 _) F.entry_dict_init (kt_code_dict_new _ ⟨rfl,rfl⟩) ?_;rintro obj s₁ ⟨rfl,rfl⟩;have I:(s.heap.push {cls:= .type "dict",data:= .dict #[]}).DictOf kn s.heap.objs.size []:=Heap.DictOf.new s.heap;have g0:(s.heap.push {cls:= .type "dict",data:= .dict #[]}).get? s.heap.objs.size=some {cls:= .type "dict",data:= .dict #[]}:=aj _ rfl;refine⟨I.typeIs,F.args_dict_init_2 _ _,?_⟩;unfold Builtin.«dict.__init__» Builtin.Dict.selfAndRest;refine aa<|aa<|wpAny_notOrdered_dict I.typeIs ?_;refine ae ?_;show wpAny _ _ (Builtin.Dict.updateFrom "dict.__init__" s.heap.objs.size (.ref l) [] .none) _ _ _;unfold Builtin.Dict.updateFrom;have J:=ac {cls:= .type "dict",data:= .dict #[]} hl;refine aa<|wpAny_typeOf (T:= "tuple") ⟨_,J,rfl⟩ ?_;rw[if_pos (by decide)]
 refine aa<|t7 J hh λh1 tk1 k1=>?_;simp only[Option.isNone_none,if_true];refine aa<|wpAny_rule ?_;have Y:h1.IsTuple l items:=⟨_,k1 _ _ J,rfl,_,rfl⟩;refine aa<|wpAny_pyIter_tuple (s:={s with heap:=h1,toks:=tk1}) Y ?_;refine ae ⟨plainId_quiet F.fC _,?_⟩;have lt1:s.heap.objs.size<h1.objs.size:=ai (k1 _ _ g0);have Z:∀{a:Addr},s.heap.objs.size<=a->s.heap.get? a=none:=λh=>Heap.get?_none_of_le h
 refine oj (A:=A.in1) (kn:=kn) (h0:=s.heap) hh (Z<|af _) (Z<|le_of_lt lt1) (al lt1) hsz ⟨_,hl,rfl,_,rfl⟩ hp items.size 0 _ (by lia) (by lia) ⟨_,aj _ rfl,rfl,rfl⟩
  (λb o e=>ac _<|k1 b o<|ac _ e) (I.at λo e=>ac _<|k1 _ o e) λh' tk a b=>⟨rfl,hQ h' tk a b⟩
end
end PySem
namespace L2
section
variable{X:Cx}{pins:List (Addr×Obj)}{W:St}{H:Hp}{s:Shared}{a:Addr}
def Inv.tupN(I:Inv X pins W H s)(h:dY X.K H a xs):∃(its:List Value)(n:Nat)(sl:Array (Option Value)),bq xs its/\s.heap.get? a=some {cls:= .type "tuple",dict:=none,data:= .seq its.toArray n,slots:=sl}/\xs.length<=sizeLine:=by
 rcases h with h|⟨o,its,n,hk,J,hs,hz,r⟩
 .obtain⟨z,its,r,o,e,J,n,hd⟩:=h.ok I.hok;obtain⟨c,d,Y,sl⟩:=o
  simp_all
 .obtain⟨c,d,Y,sl⟩:=o;obtain⟨rfl,rfl⟩:=(show c=_/\d=_ from J);cases(show Y=_ from hs);refine⟨its.toList,n,sl,r,by simpa using I.kIn a _ hk,?_⟩
  have e:=r.length
  simp_all
def rS(hc:X.calm=true):dg X (.type "dict") (λxs H Q=>∃l ys ps,xs=[.ref l]/\dY X.K H l ys/\Gb X.K H ps ys/\∀p,H p=none->Q (.ref p) (upd H p<|.dK<|Cm ps)):=by
 intro pins s W H xs us Q I r h;obtain⟨l,ys,ps,rfl,e,Y,q⟩:=h;obtain⟨u,rfl,rx⟩:=vals1 r;subst rx;obtain⟨its,m,sl,J,el,Z⟩:=I.tupN e;obtain⟨trs,h1,h2⟩:=ul I Y J;have lp:=Paired.length Y;have lr:=Paired.length J;refine kj (I.ok.hd hc) el h1 (by simp_all) λh' tk dr kp=>?_
 have fr:=I.hok.fresh<|af _;have:=lR ps [];refine⟨.ref s.heap.objs.size,_,I.laid kp (af _)<|lW (by simp at this;lia) (beq_eq_false_iff_ne.mpr<|bM I.big) (zq h2 .nil) dr,rfl,q _ fr⟩
end
end L2
namespace Ev
open L2
variable{m m0:Nat}{G G0 G1:Nat->Addr}{H:Hp}{vs:List (Key×V)}{kvs:List (Key×D)}{v:V}{d x:D}{Q:VK}{st st0 st1:aV}{a e o:Expr}{α:Type}{z:Expr×Expr}{sc:Scope}{W:L2.St}{loc:Loc}
def tQ{K:aw}{ds:List D}{vs:List V}(r:VRels K H G m ds vs)(lo hi:Option Int):VRels K H G m (cutD ds lo hi) (uT vs lo hi):=by unfold cutD uT;rw[<-r.length];exact(r.drop _).take _
def FA:EN X (λvx lo hi H Q=>∃G st dx,Sim X.K H G st/\VRel X.K H G st.length dx vx/\b_ X.K H G st (slice dx lo hi st) Q):=by
 intro pins s W H x v vl vu lo hi sl Q I Y hs pl Z h;obtain⟨G,st,dx,S,hx,P⟩:=h;have sz:sizeLine=16777216:=sizeLine_eq;unfold slice at P;split at P
 .rename_i xs;cases hx with
  |tup ha ra=>
   by_cases hw:HT.c_ xs.length 0 lo=0/\HT.c_ xs.length xs.length hi=xs.length
   .refine AZ pins s W H _ v vl vu lo hi sl Q I Y hs pl Z ⟨_,_,rfl,ha,by rw[<-ra.length];exact hw,b_.same S P ?_⟩
    unfold cutD;rw[hw.1,hw.2,List.drop_zero,Nat.sub_zero,take_length];exact .tup ha ra
   .exact AY pins s W H _ v vl vu lo hi sl Q I Y hs pl Z ⟨_,_,rfl,ha,by rw[<-ra.length];exact hw,b_.tup S P<|tQ ra lo hi⟩
 .split at P
  .rename_i xs es;obtain⟨a,vs,rfl,J,rv⟩:=hx.seq S es;rcases J with J|J
   .exact yA pins s W H _ v vl vu lo hi sl Q I Y hs pl Z ⟨_,_,rfl,J,P.alloc S<|tQ rv lo hi⟩
   .exfalso;cases hx with
    |tup _ _=>simp_all
    |fl h _=>exact qN I J h.sql
    |ref h=>
     obtain⟨u,e',n1,n2⟩:=S.obj h;rcases nQ I J with⟨_,e⟩|⟨_,_,hk,e⟩|e<;>rw[e] at e'<;>first|(cases e';done)|(cases e';exact absurd rfl<|n1 _)|(cases e';exact absurd rfl<|n2 _ _ hk)
  .exact False.elim P
def rB(K:aw)(f:Bt):List V->Hp->VK->Prop:=λvs H Q=>∃G st ds,Sim K H G st/\VRels K H G st.length ds vs/\b_ K H G st (cK f ds st) Q
noncomputable def Bt.val:Bt->Value
 | .len=>.builtin "len"
 | .list=>.type "list"
 | .tuple=>.type "tuple"
 | .int=>.type "int"
 | .dict=>.type "dict"
 | .max=>.builtin "max"
 | .min=>.builtin "min"
 | .sum=>.builtin "sum"
 | .any=>.builtin "any"
 | .sorted=>.builtin "sorted"
def DRels.anyK{K:aw}{k:Key}(h:DRels K H G m kvs vs):(kvs.any λkv=>decide<|kv.1=k)=vs.any λkv=>decide (kv.1=k):=by
 induction h with
 |nil=>rfl
 |cons h t ih=>simp_all
def DRels.repl{K:aw}{k:Key}(h:DRels K H G m kvs vs)(q:VRel K H G m d v):DRels K H G m (kvs.map λkv=>if kv.1=k then(kv.1,d) else kv) (vs.map λkv=>if kv.1=k then(kv.1,v) else kv):=by
 induction h with
 |nil=>exact .nil
 | @cons k' d' v' ds vs h t ih=>
  rw[map_cons,map_cons];by_cases e:k'=k
  .rw[if_pos e,if_pos e];exact .cons q ih
  .rw[if_neg e,if_neg e];exact .cons h ih
def DRels.put{K:aw}{k:Key}(h:DRels K H G m kvs vs)(q:VRel K H G m d v):DRels K H G m (bw kvs k d) (putK vs k v):=by
 unfold bw putK;rw[h.anyK];split
 .exact h.repl q
 .exact h.append<|.cons q .nil
theorem sJ{K:aw}{H:Hp}{G:Nat->Addr}{m:Nat}:∀{ds:List D}{vs:List V}{ps:List (Key×D)},qV ds=some ps->VRels K H G m ds vs->∃qs,Gb K H qs vs/\DRels K H G m ps qs
 |[],_,_,h,.nil=>by cases h;exact⟨[],.nil,.nil⟩
 |d::ds,_,_,h,.cons (v:=v) (vs:=vs) r t=>by
  obtain⟨p,h1,h⟩:=bs h;obtain⟨ps,Y,rfl⟩:=map_some h;obtain⟨qs,q1,q2⟩:=sJ Y t;cases d with
  |tup xs=>
   obtain⟨z,J,h1⟩:=bs h1;obtain⟨k,I,rfl⟩:=map_some h1;cases dZ J;cases r with
   |tup hq rr=>
    cases rr with
    |cons ra rr=>
     cases rr with
     |cons rb rr=>cases rr;have:=oy I ra;subst this;exact⟨(k,_)::qs,.cons ⟨_,rfl,hq⟩ q1,.cons rb q2⟩
  |_=>cases h1
theorem qc{K:aw}{H:Hp}{G:Nat->Addr}{m:Nat}:∀{ps:List (Key×D)}{qs:List (Key×V)},DRels K H G m ps qs->∀{acc:List (Key×D)}{I:List (Key×V)},DRels K H G m acc I->DRels K H G m (ps.foldl (λacc p=>bw acc p.1 p.2) acc) (qs.foldl (λacc p=>putK acc p.1 p.2) I)
 |_,_,.nil,_,_,q=>q
 |_,_,.cons h t,_,_,q=>qc t<|q.put h
def b_.allocK{K:aw}(S:Sim K H G st)(P:b_ K H G st (.ok (.ref st.length)<|st++[.dct kvs]) Q)(r:DRels K H G st.length kvs vs):∀p,H p=none->Q (.ref p) (upd H p<|.dK vs):=λp h=>by
 obtain⟨G',E,e,I⟩:=S.laid (o:= .dct kvs) (ho:= .dK vs) h<|λG' h1 Y=>⟨vs,aT,r.ext0 ⟨le_succ _,h1,λb xs e=>by rw[aq<|aE e h];exact e,λb J u e=>by rw[aq<|aE e h];exact e⟩⟩
 have l:(st++[O.dct kvs]).length=st.length+1:=by simp
 refine P _ G' _ (by rw[l];exact E) I ?_
 rw[<-e,l];exact .ref<|aK _
section
variable{K:aw}{H:Hp}{G:Nat->Addr}{m:Nat}
theorem hZ:∀{ds:List D}{vs:List V}{ns:List Int},im ds=some ns->VRels K H G m ds vs->vs=ns.map V.int
 |[],_,_,h,.nil=>by cases h;rfl
 |d::ds,_,_,h,.cons r t=>by
  cases d with
  |int i=>obtain⟨ns,h1,rfl⟩:=map_some h;cases r;rw[hZ h1 t];rfl
  |_=>cases h
theorem qk:∀{ds:List D}{vs:List V}{ns:List Bool},u9 ds=some ns->VRels K H G m ds vs->vs=ns.map V.bl
 |[],_,_,h,.nil=>by cases h;rfl
 |d::ds,_,_,h,.cons r t=>by
  cases d with
  |bl i=>obtain⟨ns,h1,rfl⟩:=map_some h;cases r;rw[qk h1 t];rfl
  |_=>cases h
theorem mP:∀{ds:List D}{vs:List V}{ns:List Str},sq ds=some ns->VRels K H G m ds vs->vs=ns.map V.str
 |[],_,_,h,.nil=>by cases h;rfl
 |d::ds,_,_,h,.cons r t=>by
  cases d with
  |str i=>obtain⟨ns,h1,rfl⟩:=map_some h;cases r;rw[mP h1 t];rfl
  |_=>cases h
def t9(r:DRels K H G m kvs vs):∀{ns:List Str},mL kvs=some ns->vs.map (·.1)=ns.map (Sum.inr:Str->Key):=by
 induction r with
 |nil=>trivial
 | @cons k d v ds vs _ _ ih=>
  intro ns h;cases k with
  |inl=>cases h
  |inr s=>obtain⟨I,h1,rfl⟩:=map_some h;rw[map_cons,ih h1];rfl
theorem nV:∀(ns:List Str),VRels K H G m (ns.map .str) (ns.map V.str)
 |[]=>.nil
 |n::ns=>.cons (.str n)<|nV ns
def fe(S:Sim K H G st)(h:dU st x=some xs)(r:VRel K H G st.length x v):∃n vs,x=.ref n/\st[n]? =some (.lst xs)/\v=.ref (G n)/\n<st.length/\H (G n)=some (.lst vs)/\VRels K H G st.length xs vs:=by
 cases x with
 |ref n=>
  simp only[dU] at h;split at h
  .rename_i ys q;cases h;cases r with
   |ref hn=>obtain⟨vs,J,I⟩:=S.ob n _ q;exact⟨n,vs,rfl,q,rfl,hn,J,I⟩
  .cases h
 |_=>cases h
end
def rT{X:Cx}(hc:X.calm=true)(f:Bt):dg X f.val (rB X.K f):=by
 intro pins s W H xs us Q I r h;obtain⟨G,st,ds,S,rv,P⟩:=h;have sz:sizeLine=16777216:=sizeLine_eq;cases ds with
 |nil=>exact False.elim P
 |cons x ds=>cases ds with
  |cons y ds=>cases ds with
   |cons=>exact False.elim P
   |nil=>
   replace P:b_ X.K H G st (EI f x y st) Q:=P
   cases rv with
   |cons h1 rv=>cases rv with
    |cons h2 t=>
     cases t;cases f with
     |max=>cases x with
      |int i=>cases y with
       |int j=>cases h1;cases h2;exact uZ hc pins s W H _ us Q I r ⟨_,_,rfl,P.same S<|.int _⟩
       |_=>exact False.elim P
      |_=>exact False.elim P
     |min=>cases x with
      |int i=>cases y with
       |int j=>cases h1;cases h2;exact uX hc pins s W H _ us Q I r ⟨_,_,rfl,P.same S<|.int _⟩
       |_=>exact False.elim P
      |_=>exact False.elim P
     |_=>exact False.elim P
  |nil=>
  obtain⟨v,rfl,J⟩:=rv.inv1
  replace P:b_ X.K H G st (mm f x st) Q:=P
  cases f with
  |len=>
   simp only[mm] at P;split at P
   .rename_i ys es;obtain⟨a,vs,rfl,hq,rr⟩:=J.seq S es;exact oT pins s W H _ us Q I r ⟨_,_,rfl,hq,by rw[<-rr.length];exact P.same S<|.int _⟩
   .split at P
    .rename_i kvs es;obtain⟨n,a,vs,rfl,q,ea,rfl,Z,Y⟩:=lX S es J;obtain⟨u,rfl,ru⟩:=vals1 r;subst ru;exact ED I (.inl Z) λt s' I'=>⟨.int kvs.length,H,I',by rw[Y.length];exact⟨t,rfl⟩,P.same S<|.int _⟩
    .exact False.elim P
  |list=>
   simp only[mm] at P;split at P
   .rename_i ys es;obtain⟨a,vs,rfl,hq,rr⟩:=J.seq S es;exact oS pins s W H _ us Q I r ⟨_,_,rfl,hq,P.alloc S rr⟩
   .exact False.elim P
  |tuple=>
   simp only[mm] at P;split at P
   .rename_i ys es;obtain⟨a,vs,rfl,hq,rr⟩:=J.seq S es;rcases hq with hq|hq
    .exact eV pins s W H _ us Q I r ⟨_,_,rfl,.inl ⟨hq,P.tup S rr⟩⟩
    .exact eV pins s W H _ us Q I r ⟨_,_,rfl,.inr ⟨hq,P.same S<|.tup hq rr⟩⟩
   .exact False.elim P
  |sum=>
   simp only[mm] at P;split at P
   .rename_i ns es;obtain⟨xs,h1,h2⟩:=bs es;obtain⟨n,vs,rfl,_,rfl,_,Z,Y⟩:=fe S h1 J;cases hZ h2 Y;exact uW hc pins s W H _ us Q I r ⟨_,ns,rfl,dG.of Z,P.same S<|.int _⟩
   .exact False.elim P
  |any=>
   simp only[mm] at P;split at P
   .rename_i ns es;obtain⟨xs,h1,h2⟩:=bs es;obtain⟨n,vs,rfl,_,rfl,_,Z,Y⟩:=fe S h1 J;cases qk h2 Y;exact u6 hc pins s W H _ us Q I r ⟨_,ns,rfl,dG.of Z,P.same S<|.bl _⟩
   .exact False.elim P
  |max=>
   simp only[mm] at P;split at P
   .rename_i n0 ns es;obtain⟨xs,h1,h2⟩:=bs es;obtain⟨n,vs,rfl,_,rfl,_,Z,Y⟩:=fe S h1 J;cases hZ h2 Y;exact uY hc pins s W H _ us Q I r ⟨_,n0,ns,rfl,dG.of Z,P.same S<|.int _⟩
   .exact False.elim P
  |sorted=>
   simp only[mm] at P;cases e1:dU st x with
   |some xs=>
    rw[e1] at P;simp only at P;split at P
    .rename_i ns h2;obtain⟨n,vs,rfl,_,rfl,_,Z,Y⟩:=fe S e1 J;cases mP h2 Y;unfold t_ at P;split at P
     .rename_i hz;exact mC pins s W H _ us Q I r ⟨_,ns,rfl,dG.of Z,hz.1,hz.2,P.alloc S<|nV _⟩
     .exact False.elim P
    .exact False.elim P
   |none=>
    rw[e1] at P;simp only at P;split at P
    .rename_i ns es;obtain⟨kvs,h1,h2⟩:=bs es;obtain⟨n,a,vs,rfl,q,ea,rfl,Z,Y⟩:=lX S h1 J;have hk:=t9 Y h2;have hlen:vs.length=ns.length:=by have:=congrArg List.length hk;simpa using this
     unfold t_ at P;split at P
     .rename_i hz;exact mD hc pins s W H _ us Q I r ⟨_,vs,ns,rfl,Z,hk,by lia,hz.2,P.alloc S<|nV _⟩
     .exact False.elim P
    .exact False.elim P
  |int=>cases x with
   |bl b=>cases J;exact u5 pins s W H _ us Q I r<|.inr ⟨b,rfl,P.same S<|.int _⟩
   |_=>exact False.elim P
  |dict=>
   have cp:∀{x:D}{v:V},VRel X.K H G st.length x v->bq [v] us->b_ X.K H G st (match c8 st x with|some kvs=>.ok (.ref st.length) (st++[.dct kvs])|none=>.bad) Q->wpAny (model X.prog X.w) X.A (call (.type "dict") us) (EP X pins W Q) X.xe s:=λ{x v} J r P=>by
    cases es:c8 st x with
    |none=>rw[es] at P;exact P.elim
    |some kvs=>rw[es] at P;obtain⟨n,a,vs,rfl,q,ea,rfl,Z,Y⟩:=lX S es J;obtain⟨u,rfl,ru⟩:=vals1 r;subst ru;exact xG I (.inl Z) λp s' hp I'=>⟨.ref p,_,I',rfl,P.allocK S Y p hp⟩
   cases x with
   |tup xs=>
    simp only[mm] at P;split at P
    .rename_i ps hps;cases J with
     |tup hq rr=>obtain⟨qs,k1,k2⟩:=sJ hps rr;exact rS hc pins s W H _ us Q I r ⟨_,_,qs,rfl,hq,k1,P.allocK S<|qc k2 .nil⟩
    .exact False.elim P
   |_=>exact cp J r P
  |_=>exact False.elim P
def oY(P:Program)(w:World):yc:=λ_ _ _ _ _ _=>False
def Ao:me (oY P w) X E0:=λ_ _ _ _ _ _ _ z=>z.elim
section
variable{X:Cx}{pins:List (Addr×Obj)}{W:L2.St}{H:Hp}{s:Shared}
def sC{k:Nat}{f:Addr}{fd:FuncData}{ps:List Str}{sp:Sp}{vs:List V}(F:FnOk X.prog X.w X.K X.mg X.base (oY X.prog X.w) k f fd ps sp)(Y:Room k X.A)(hb:Binds X.K fd ps [])
  (I:Inv X pins W H s)(r:bq vs us)(h:sp vs H Q E0):wpAny (model X.prog X.w) X.A (call (.ref f) us) (EP X pins W Q) X.xe s:=by
 have Z:(us++[]).length=ps.length:=by rw[append_nil,<-r.length];exact F.len _ _ _ _ h
 refine wpAny_call<|codeAny_mono (F.run X.A X.stack s H ⟨us,[]⟩ us vs Q _ Y I.env0 (by have:=hb s us I.kIn Z;simp_all) r h) λr s' J=>?_
 cases r with
 |error e=>exact J.elim
 |ok fl=>
  cases fl with
  |ret u=>exact I.after J
  |_=>trivial
end
def pL{name:Str}{apos pos:Pos}{args:List Expr}{E:Value->Shared->Prop}{env:Env}{Q:Value->Shared->Prop}
  (J:attributeBase o name env (eval o env)=eval o env)
  (Y:methodCallForm (args.length+([]:List Keyword).length) (backTo pos<|starEach args env) (backToKw pos<|keywordEach [] env)=true)
  (I:(apos.endLine==pos.line)=true)
  (h:wpAny (model prog w) A (eval o env) (λov s₁=>∀pl,wpAny (model prog w) A (getMethod ov name pl) (λZ s₂=>wpAny (model prog w) A (callWith pos Z.1 Z.2 (backTo pos<|starEach args env)<|backToKw pos<|keywordEach [] env) Q E s₂) E s₁) E s):
  wpAny (model prog w) A (eval (.Call (.Attribute o name apos) args [] pos) env) Q E s:=by
 rw[arm_eval_Call,J];refine aa<|aO h (λov s₁ h₁=>?_) λ_ _ e=>e;refine aa<|wpAny_standAt ?_;have hpos:methodCallPos true o env apos pos=pure pos:=by unfold methodCallPos;simp[I]
 unfold methodCall;rw[Y];refine aa<|wpAny_holding<|aO (h₁ _) (λZ s2 h2=>?_) λ_ _ e=>e
 simp_all
def vO(X:Cx)(m:Str)(ta:TE)(t:TA):TE:=λW H Q=>ta W H λx H1=>∃a C dx fs f k fd ps sp,x=.ref a/\H1 a=some (.ins C dx fs)/\fs.lookup m=none/\Cls X.K C/\Meth X.K C m f/\
 FnOk X.prog X.w X.K X.mg X.base (oY X.prog X.w) k f fd ps sp/\Room k X.A/\Binds X.K fd ps []/\t W H1 λvs H2=>∀E:XK,sp (.ref a::vs) H2 Q E
section
variable{X:Cx}{m:Str}{o e:Expr}{es:List Expr}{ta:TE}{t:TA}{apos pos:Pos}
def wC(he:PE X o ta)(Y:attributeBase o m X.env (eval o X.env)=eval o X.env)(J:(apos.endLine==pos.line)=true)
  (Z:methodCallForm ((e::es).length+([]:List Keyword).length) (backTo pos<|starEach (e::es) X.env) (backToKw pos<|keywordEach [] X.env)=true)(ha:PA X (e::es) t)
  (hst:starEach (e::es) X.env=(false,eval e X.env)::starEach es X.env)(hpl:(backTo pos<|starEach es X.env).any (·.1)=false):PE X (.Call (.Attribute o m apos) (e::es) [] pos) (vO X m ta t):=by
 intro pins s W H Q I h;refine pL Y Z J<|bR (he pins s W H _ I h) λu s1 hp pl=>?_;obtain⟨x,H1,I1,rx,a,C,dx,fs,f,k,fd,ps,sp,ex,ea,l,c,hm,F,hr,hb,q⟩:=hp;subst ex;obtain rfl:u=Value.ref a:=rx;refine lO I1 ea c hm l ?_;refine PySem.W.callWith_K (h₀:=X.base) I.ok.mod.kin hm.kp (bR (ha pos pins s1 W H1 _ I1 q) λus s2 ⟨vs,H2,I2,r,q2⟩=>⟨I2.kIn,?_⟩) hst hpl;exact sC (vs:= .ref a::vs) F hr hb I2 (.cons rfl r)<|q2 _
def uj(he:PE X o ta)(Y:attributeBase o m X.env (eval o X.env)=eval o X.env)(J:(apos.endLine==pos.line)=true):PE X (.Call (.Attribute o m apos) [] [] pos) (vO X m ta AX):=by intro pins s W H Q I h;refine pL Y rfl J<|bR (he pins s W H _ I h) λu s1 hp pl=>?_;obtain⟨x,H1,Z,rx,a,C,dx,fs,f,k,fd,ps,sp,ex,ea,l,c,hm,F,hr,hb,q⟩:=hp;subst ex;obtain rfl:u=Value.ref a:=rx;refine lO Z ea c hm l ?_;exact PySem.W.callWith_K0 Z.kIn hm.kp<|sC (vs:=[.ref a]) F hr hb Z (.cons rfl .nil)<|q _
def FK(K:aw):List V->Hp->VK->Prop:=λxs H Q=>∃a C dx fs v c b,xs=[.ref a,v]/\H a=some (.ins C dx fs)/\Cls K C/\PySem.W.findIn K (.ref C) "__class__"=some (some<|.builtin "object.__class__")/\
 PySem.W.specialIn K (.builtin "object.__class__") "__get__"=some (some<|.builtin "getset_descriptor.__get__")/\PySem.W.takesIn K (.builtin "object.__class__")=some true/\PySem.W.mroIn K C (.type "object")=some true/\
 (∀u,RelV v u->u=c)/\PySem.W.kitOne K (.ref C) c=some b/\Q (.bl b) H
def xO:dg X (.builtin "isinstance") (FK X.K):=by
 intro pins s W H xs us Q I r h;obtain⟨a,C,dx,fs,v,c,b,ex,e,cl,h1,h2,h3,Z,J,Y,q⟩:=h;subst ex;cases r with
 |cons r1 r2=>
  cases r2 with
  |cons r2 r3=>cases r3;cases J _ r2;exact uE I r1 (.ins e cl h1 h2 h3 Z) Y λtk=>⟨.bl b,H,I.tok tk,rfl,q⟩
end
def _root_.L2.PE.or{e:Expr}{t u:TE}(h1:PE X e t)(J:PE X e u):PE X e (λW H Q=>t W H Q\/u W H Q):=λpins s W H Q I h=>h.elim (h1 pins s W H Q I)<|J pins s W H Q I
def _root_.L2.PS.or{e:Stmt}{t u:TS}(h1:PS X e t)(J:PS X e u):PS X e (λD W H=>t D W H\/u D W H):=λpins s W H D I h=>h.elim (h1 pins s W H D I)<|J pins s W H D I
structure ICl where
 x:Str
 flds:List Str
 mts:List (Str×Nat)
structure Tab where
 fns:List Str
 csts:List (Str×D)
 calm:Bool
 icl:List ICl
 mks:List (Str×Nat)
 isks:List (Str×Str)
noncomputable def Tab.ics(T:Tab)(f:Str):List Str:=(T.icl.filter λc=>c.flds.contains f).map (·.x)
noncomputable def Tab.ims(T:Tab)(m:Str):List (Str×Nat):=T.icl.filterMap λc=>(c.mts.lookup m).map λj=>(c.x,j)
noncomputable def Tab.sub(T:Tab)(t:Str):List Str:=(T.isks.filter λp=>p.1==t).map (·.2)
noncomputable def yp:List (Str×Ty):=[("list",.list),("tuple",.tuple),("bool",.bool)]
noncomputable def dM:List Str->Str->Option Nat
 |[],_=>none
 |y::r,x=>if y=x then some 0 else(dM r x).map (· +1)
theorem ci:∀{N:List Str}{x:Str}{i:Nat},dM N x=some i->N[i]? =some x
 |[],_,_,h=>by cases h
 |y::r,x,i,h=>by
  unfold dM at h;split at h
  .rename_i e;cases h;rw[e];rfl
  .cases q:dM r x with
   |none=>simp_all
   |some j=>rw[q] at h;have:=ak h;subst this;simpa using ci q
noncomputable def CC:List (Str×Bt):=[("len",.len),("list",.list),("tuple",.tuple),("int",.int),("dict",.dict),("max",.max),("min",.min),("sum",.sum),("any",.any),("sorted",.sorted)]
noncomputable def u8:List Str:=["len","list","tuple","int","bool","dict","max","min","isinstance","range","zip","sorted","sum","any"]
noncomputable def EJ:Operator->Option Bo
 | .Add=>some .add
 | .Sub=>some .sub
 | .Mult=>some .mul
 | .FloorDiv=>some .fdiv
 | .Mod=>some .mod
 | .Pow=>some .pow
 |_=>none
def cm(sc scope:Scope)(N:List Str)(x:Str):Bool:=
 (scope.kind== .function)&&(scope.names.lookup x==some .local)&&decide ((x::eJ scope N).Nodup)&&(x != "__debug__")&&(x != "__classdict__")&&
 (scope.names.all λy=>(y.2 != .cell)&&(y.2 != .local||scope.names.lookup y.1==some .local)&&(y.2 != .free||sc.names.lookup y.1==some .cell||sc.names.lookup y.1==some .free))&&
 N.all λz=>(scope.names.lookup z !=some .local||scope.names.lookup (Ay z)==none)&&(Ay z != "__debug__")&&(Ay z != "__classdict__")
def c9(sc scope:Scope)(N:List Str)(x y:Str):Bool:=
 cm sc scope N x&&(scope.names.lookup y==some .local)&&decide ((x::y::eJ scope N).Nodup)&&(y != "__debug__")&&(y != "__classdict__")
def fX(sc scope:Scope)(N:List Str)(x y z:Str):Bool:=
 c9 sc scope N x y&&(scope.names.lookup z==some .local)&&decide ((x::y::z::eJ scope N).Nodup)&&(z != "__debug__")&&(z != "__classdict__")
noncomputable def cL(sc scope:Scope):Scope:=
 {scope with names:=scope.names.map λ(n,k)=>if(k== .free&&sc.kind== .function&&sc.names.lookup n==some .cell) then(n,.cell) else(n,k)}
noncomputable def bE(sc:Scope)(x:Str):Bool:=sc.names.lookup x==some .globalImplicit
noncomputable def iR:Expr->Bool
 | .Slice .. =>false
 |_=>true
noncomputable def qr:Expr->Option Str
 | .Name x _=>some x
 |_=>none
def cw{x:Str}(h:qr e=some x):∃p,e= .Name x p:=by cases e<;>cases h;exact⟨_,rfl⟩
noncomputable def CB:(e:Expr)->Option {q:Expr×List Expr×Pos // e= .Call q.1 q.2.1 [] q.2.2}
 | .Call f as ks p=>(match ks with
  |[]=>some ⟨(f,as,p),rfl⟩
  |_=>none)
 |_=>none
noncomputable def EK:(e:Expr)->Option {q:Expr×Str×Pos // e= .Attribute q.1 q.2.1 q.2.2}
 | .Attribute a b c=>some ⟨(a,b,c),rfl⟩
 |_=>none
noncomputable def Dc:(e:Expr)->Option {q:List Expr×Nat×Pos // e= .Tuple q.1 q.2.1 q.2.2}
 | .Tuple a b c=>some ⟨(a,b,c),rfl⟩
 |_=>none
noncomputable def EF:(e:Expr)->Option {q:Const×Nat×Pos // e= .Constant q.1 q.2.1 q.2.2}
 | .Constant a b c=>some ⟨(a,b,c),rfl⟩
 |_=>none
noncomputable def Gv:(e:Expr)->Option {q:(Expr×Expr×Expr)×Scope×Pos // e= .ListComp q.1.1 [⟨q.1.2.1,q.1.2.2,[],0⟩] q.2.1 q.2.2}
 | .ListComp a gs s p=>(match gs with
  |[⟨t,it,[],k⟩]=>if h:k=0 then some ⟨((a,t,it),s,p),by rw[h]⟩ else none
  |_=>none)
 |_=>none
def zZ(e:Expr):Option (Str×List Expr):=(CB e).bind λq=>(qr q.1.1).map λx=>(x,q.1.2.1)
def l9{x:Str}{as:List Expr}(h:zZ e=some (x,as)):∃p q,e= .Call (.Name x p) as [] q:=by
 replace h:=bs h
 obtain⟨⟨⟨f,bs',c⟩,e⟩,_,k⟩:=h
 replace k:=map_some k
 obtain⟨y,h1,I⟩:=k;obtain⟨p,J⟩:=cw h1
 simp_all
def xQ(e:Expr):Option (Str×Expr):=(zZ e).bind λp=>(one p.2).map λa=>(p.1,a)
def ny{r:Str}(h:xQ e=some (r,a)):∃p q,e= .Call (.Name r p) [a] [] q:=by
 replace h:=bs h
 obtain⟨⟨x,as⟩,h1,h⟩:=h
 replace h:=map_some h
 obtain⟨b,J,I⟩:=h;cases I;cases cH J;exact l9 h1
noncomputable def Fz:Const->Option Str
 | .str k=>some k
 |_=>none
noncomputable def Du(o:Option Expr):Option Str:=o.bind λe=>(EF e).bind λq=>Fz q.1.1
def vQ{o:Option Expr}{k:Str}(h:Du o=some k):∃p q,o=some (.Constant (.str k) p q):=by
 replace h:=bs h
 obtain⟨e,h1,k1⟩:=h
 replace k1:=bs k1
 obtain⟨⟨⟨c,b,p⟩,e1⟩,_,k2⟩:=k1;cases c<;>cases k2
 simp_all
noncomputable def tP:List (Option Expr)->Option (List Str)
 |[]=>some []
 |k::r=>(Du k).bind λx=>(tP r).map (x:: ·)
noncomputable def eM:Expr->Bool
 | .Name .. =>true
 | .Attribute .. =>true
 | .Subscript .. =>true
 | .Call (.Attribute ..) .. =>true
 | .Call (.Name ..) (_::_) .. =>true
 |_=>false
noncomputable def xa(s:Str):Bool:=s== "pop"
noncomputable def Ef:List Comprehension->Option (Expr×Expr×List Expr)
 |[⟨t,it,ifs,k⟩]=>if k=0 then some (t,it,ifs) else none
 |_=>none
def xo{I:List Comprehension}{p:Expr×Expr×List Expr}(h:Ef I=some p):I=[⟨p.1,p.2.1,p.2.2,0⟩]:=by
 rcases I with _|⟨⟨t,it,ifs,k⟩,_|⟨c,l⟩⟩
 .cases h
 .replace h:=eG h
  obtain⟨h1,h⟩:=h;subst h1;cases h;rfl
 .cases h
def Ap(e:Expr):Option (Str×Str):=(Dc e).bind λq=>(lB q.1.1).bind λw=>(qr w.1).bind λx=>(qr w.2).map λy=>(x,y)
def um{z:Str×Str}(h:Ap e=some z):∃p q k r,e= .Tuple [.Name z.1 p,.Name z.2 q] k r:=by
 replace h:=bs h
 obtain⟨⟨⟨l,k,r⟩,e⟩,_,k1⟩:=h
 replace k1:=bs k1
 obtain⟨⟨a,b⟩,J,k2⟩:=k1
 replace k2:=bs k2
 obtain⟨x,h1,I⟩:=k2
 replace I:=map_some I
 obtain⟨y,Y,Z⟩:=I;cases dZ J;obtain⟨p,e1⟩:=cw h1;obtain⟨q,e2⟩:=cw Y
 simp_all
noncomputable def De{α:Type}:List α->Option (α×α×α)
 |[a,b,c]=>some (a,b,c)
 |_=>none
def vK{l:List α}{p:α×α×α}(h:De l=some p):l=[p.1,p.2.1,p.2.2]:=by rcases l with _|⟨a,_|⟨b,_|⟨c,_|⟨d,l⟩⟩⟩⟩<;>cases h;rfl
def Gw(e:Expr):Option (Expr×Expr×(Str×Str×Str)×Scope):=(Gv e).bind λq=>(Dc q.1.1.2.1).bind λt=>(De t.1.1).bind λw=>(qr w.1).bind λx=>(qr w.2.1).bind λy=>(qr w.2.2).map λz=>(q.1.1.1,q.1.1.2.2,(x,y,z),q.1.2.1)
def zk{z:Expr×Expr×(Str×Str×Str)×Scope}(h:Gw e=some z):∃p1 p2 p3 k pt pos,e= .ListComp z.1 [⟨.Tuple [.Name z.2.2.1.1 p1,.Name z.2.2.1.2.1 p2,.Name z.2.2.1.2.2 p3] k pt,z.2.1,[],0⟩] z.2.2.2 pos:=by
 replace h:=bs h
 obtain⟨⟨⟨⟨elt,t,it⟩,sc,p⟩,e0⟩,_,k1⟩:=h
 replace k1:=bs k1
 obtain⟨⟨⟨l,k,r⟩,e⟩,_,k2⟩:=k1
 replace k2:=bs k2
 obtain⟨⟨a,b,c⟩,Z,Y⟩:=k2
 replace Y:=bs Y
 obtain⟨x,h1,J⟩:=Y
 replace J:=bs J
 obtain⟨y,h2,I⟩:=J
 replace I:=map_some I
 obtain⟨z,h3,k6⟩:=I;cases vK Z;cases e;obtain⟨p1,e1⟩:=cw h1;obtain⟨p2,e2⟩:=cw h2;obtain⟨p3,e3⟩:=cw h3
 simp_all
def Dt(f:Str)(args:List Expr):Option (Expr×Expr×(Str×Str×Str)×Scope):=if f= "sum" then(one args).bind Gw else none
noncomputable def rR:List (Option Expr)->List Expr->Option ((Expr×Expr)×Expr×Expr)
 |[k1,k2],[v1,v2]=>k1.bind λa=>k2.map λc=>((a,v1),c,v2)
 |_,_=>none
def rQ{ks:List (Option Expr)}{vs:List Expr}{z:(Expr×Expr)×Expr×Expr}(h:rR ks vs=some z):ks=[some z.1.1,some z.2.1]/\vs=[z.1.2,z.2.2]:=by
 unfold rR at h;split at h
 .replace h:=bs h
  obtain⟨a,h1,h⟩:=h
  replace h:=map_some h
  obtain⟨c,I,rfl⟩:=h
  simp_all
 .cases h
noncomputable def Gj:Expr->Option (Option Expr×Option Expr)
 | .Slice lo hi st _=>(match st with
  |none=>some (lo,hi)
  |_=>none)
 |_=>none
def yz{q:Option Expr×Option Expr}(h:Gj e=some q):∃p,e= .Slice q.1 q.2 none p:=by
 cases e with
 |Slice lo hi st p=>
  cases st with
  |none=>cases h;simp
  |some=>cases h
 |_=>cases h
def CV(sc:Scope)(e:Expr):Option (Expr×Expr):=(zZ e).bind λp=>if p.1= "zip" /\bE sc p.1=true then lB p.2 else none
def ve(h:CV sc e=some z):bE sc "zip"=true/\∃p q,e= .Call (.Name "zip" p) [z.1,z.2] [] q:=by
 replace h:=bs h
 obtain⟨⟨r,as⟩,h1,h⟩:=h
 replace h:=eG h
 obtain⟨⟨e,I⟩,h⟩:=h;subst e;cases dZ h;exact⟨I,l9 h1⟩
def DE(sc:Scope)(e:Expr):Option Expr:=(xQ e).bind λp=>if p.1= "range" /\bE sc p.1=true then some p.2 else none
def wj(h:DE sc e=some a):bE sc "range"=true/\∃p q,e= .Call (.Name "range" p) [a] [] q:=by
 replace h:=bs h
 obtain⟨⟨r,b⟩,h1,h⟩:=h
 replace h:=eG h
 obtain⟨⟨e,I⟩,h⟩:=h;cases h;subst e;exact⟨I,ny h1⟩
def rng2(sc:Scope)(e:Expr):Option (Expr×Expr):=(zZ e).bind λp=>if p.1= "range" /\bE sc p.1=true then lB p.2 else none
def wk(h:rng2 sc e=some z):bE sc "range"=true/\∃p q,e= .Call (.Name "range" p) [z.1,z.2] [] q:=by
 replace h:=bs h
 obtain⟨⟨r,as⟩,h1,h⟩:=h
 replace h:=eG h
 obtain⟨⟨e,I⟩,h⟩:=h;subst e;cases dZ h;exact⟨I,l9 h1⟩
def wP(m:Str)(e:Expr):Option Expr:=(CB e).bind λq=>(EK q.1.1).bind λw=>if q.1.2.1.isEmpty=true/\(w.1.2.1=m/\(w.1.2.2.endLine==q.1.2.2.line)=true/\eM w.1.1=true) then some w.1.1 else none
def iW{m:Str}(h:wP m e=some o):∃ap cp,e= .Call (.Attribute o m ap) [] [] cp/\(ap.endLine==cp.line)=true/\eM o=true:=by
 replace h:=bs h
 obtain⟨⟨⟨f,as,cp⟩,e0⟩,_,k1⟩:=h
 replace k1:=bs k1
 obtain⟨⟨⟨o',m',ap⟩,e⟩,_,k2⟩:=k1
 replace k2:=eG k2
 obtain⟨⟨h1,Z,Y,J⟩,I⟩:=k2;cases I;cases e;subst Z;cases List.isEmpty_iff.mp h1;exact⟨ap,cp,e0,Y,J⟩
def Gu(e:Expr):Option (Expr×Str×Expr×Scope):=(Gv e).bind λq=>(qr q.1.1.2.1).bind λx=>(wP "values" q.1.1.2.2).map λo=>(q.1.1.1,x,o,q.1.2.1)
def Da(f:Str)(args:List Expr):Option (Expr×Str×Expr×Scope):=if f= "max" then(one args).bind Gu else none
def tq{z:Expr×Str×Expr×Scope}(h:Gu e=some z):∃px ap cp pos,e= .ListComp z.1 [⟨.Name z.2.1 px,.Call (.Attribute z.2.2.1 "values" ap) [] [] cp,[],0⟩] z.2.2.2 pos/\(ap.endLine==cp.line)=true/\eM z.2.2.1=true:=by
 replace h:=bs h
 obtain⟨⟨⟨⟨elt,t,it⟩,sc,p⟩,e0⟩,_,k1⟩:=h
 replace k1:=bs k1
 obtain⟨x,h1,k2⟩:=k1
 replace k2:=map_some k2
 obtain⟨o,Z,I⟩:=k2;subst I;obtain⟨px,e⟩:=cw h1;obtain⟨ap,cp,e',Y,J⟩:=iW Z;subst e;subst e';exact⟨px,ap,cp,p,e0,Y,J⟩
def FU(ops:List CmpOp)(bs:List Expr):Option Expr:=(one ops).bind λop=>match op with
 | .In=>(one bs).bind λb=>wP "values" b
 |_=>none
def FB(f:Str)(args:List Expr):Option Expr:=if f= "sorted" then(one args).bind λc=>wP "items" c else none
noncomputable def Ea:Const->Option Int
 | .int i=>some i
 |_=>none
def Cb(e:Expr):Option Int:=(EF e).bind λq=>Ea q.1.1
def pS{i:Int}(h:Cb e=some i):∃k p,e= .Constant (.int i) k p:=by
 replace h:=bs h
 obtain⟨⟨⟨c,b,p⟩,e⟩,_,k⟩:=h;cases c<;>cases k
 simp_all
def isZero(e:Expr):Bool:=Cb e==some 0
def lJ(h:isZero e=true):∃k p,e= .Constant (.int 0) k p:=pS<|beq_iff_eq.mp h
def B9(k:Keyword):Bool:=k.arg==some "default" &&isZero k.value
def xc{k:Keyword}(h:B9 k=true):∃n q p,k=⟨some "default",.Constant (.int 0) n q,p⟩:=by
 unfold B9 at h;simp only[and_eq_true] at h;obtain⟨a,v,p⟩:=k;obtain⟨h1,I⟩:=h;obtain⟨n,q,e⟩:=lJ I
 simp_all
def wI(sc:Scope)(N:List Str)(e:Expr):Option (Str×Nat):=(qr e).bind λx=>if sc.names.lookup x=some .local\/sc.names.lookup x=some .cell\/sc.names.lookup x=some .free then(dM N x).map λi=>(x,i) else none
def iU{N:List Str}{z:Str×Nat}(h:wI sc N e=some z):∃p,e= .Name z.1 p/\xT sc z.1/\dM N z.1=some z.2:=by
 replace h:=bs h
 obtain⟨x,h1,h⟩:=h;obtain⟨p,rfl⟩:=cw h1
 replace h:=eG h
 obtain⟨J,h⟩:=h
 replace h:=map_some h
 obtain⟨i,I,rfl⟩:=h;exact⟨p,rfl,J,I⟩
noncomputable def Fy:(e:Expr)->Option {q:Expr×Expr×Pos // e= .Subscript q.1 q.2.1 q.2.2}
 | .Subscript a b c=>some ⟨(a,b,c),rfl⟩
 |_=>none
noncomputable def F6:(e:Expr)->Option {q:Expr×CmpOp×Expr×Pos // e= .Compare q.1 [q.2.1] [q.2.2.1] q.2.2.2}
 | .Compare a [o] [b] p=>some ⟨(a,o,b,p),rfl⟩
 |_=>none
def Gy(e:Expr):Option (Expr×Expr×Expr):=(F6 e).bind λq=>(Fy q.1.1).bind λz=>if q.1.2.1= .Eq then some (z.1.1,z.1.2.1,q.1.2.2.1) else none
def zK{z:Expr×Expr×Expr}(h:Gy e=some z):∃p q,e= .Compare (.Subscript z.1 z.2.1 p) [.Eq] [z.2.2] q:=by
 replace h:=bs h
 obtain⟨⟨⟨a,o,b,p⟩,J⟩,_,k1⟩:=h
 replace k1:=bs k1
 obtain⟨⟨⟨c,d,r⟩,e⟩,_,k2⟩:=k1
 replace k2:=eG k2
 obtain⟨e1,I⟩:=k2;cases I;cases e
 simp_all
def DY(x:Str)(elt it:Expr)(ifs:List Expr):Option (Expr×Expr):=(qr elt).bind λx'=>(qr it).bind λd=>(one ifs).bind λc=>(Gy c).bind λw=>(qr w.1).bind λd'=>(qr w.2.1).bind λx2=>if x'=x/\d'=d/\x2=x then some (it,w.2.2) else none
def w6{x:Str}(h:DY x elt it ifs=some z):∃d p1 p2 p3 p4 p5 I,elt= .Name x p1/\it= .Name d p2/\z.1=it/\ifs=[.Compare (.Subscript (.Name d p3) (.Name x p4) p5) [.Eq] [z.2] I]:=by
 replace h:=bs h
 obtain⟨x',h1,h⟩:=h
 replace h:=bs h
 obtain⟨d,h2,h⟩:=h
 replace h:=bs h
 obtain⟨c,h3,h⟩:=h
 replace h:=bs h
 obtain⟨⟨w1,w2,w3⟩,Z,h⟩:=h
 replace h:=bs h
 obtain⟨d',Y,h⟩:=h
 replace h:=bs h
 obtain⟨x2,J,h⟩:=h
 replace h:=eG h
 obtain⟨h7,h⟩:=h;cases h;obtain⟨p1,e1⟩:=cw h1;obtain⟨p2,e2⟩:=cw h2;obtain⟨p3,e3⟩:=cw Y;obtain⟨p4,e4⟩:=cw J;obtain⟨p5,I,e5⟩:=zK Z;have e6:=cH h3
 simp_all
mutual
noncomputable def cE(T:Tab)(n:Nat)(sc:Scope)(N:List Str)(e:Expr):Option Ex:=match n with
 |0=>none
 |n+1=>match e with
  | .Constant k _ _=>(match k with
   | .int i=>some (.c<|.int i)
   | .str s=>some (.c<|.str s)
   | .bool b=>some (.c<|.bl b)
   | .none=>some (.c .non)
   |_=>none)
  | .Name x _=>(sc.names.lookup x).bind λk=>match k with
   | .local=>(dM N x).map .v
   | .cell=>(dM N x).map .v
   | .free=>(dM N x).map .v
   | .globalImplicit=>(T.csts.lookup x).map .c
   |_=>none
  | .Tuple es _ _=>if es.length<=1000 then(vd T n sc N es).map .tup else none
  | .List es _=>if es.length<=1000 then(vd T n sc N es).map .lst else none
  | .Dict ks vs _=>(match ks with
   |[]=>(match vs with
    |[]=>some .emp
    |_=>none)
   |k::ks=>(tP<|k::ks).elim ((rR (k::ks) vs).bind λz=>(cE T n sc N z.1.1).bind λa=>(cE T n sc N z.1.2).bind λb=>(cE T n sc N z.2.1).bind λc=>(cE T n sc N z.2.2).map λd=>.dict2 a b c d) λks'=>(vd T n sc N vs).bind λvs'=>if ks'.length=vs.length/\ks'.length<=15/\ks'.Nodup then some (.dict ks' vs') else none)
  | .BinOp a op b _=>(cE T n sc N a).bind λa'=>(EJ op).bind λo=>(cE T n sc N b).map λb'=>.bin o a' b'
  | .UnaryOp op a _=>(match op with
   | .Not=>(cE T n sc N a).map .not
   | .USub=>(Cb a).map λi=>.c (.int<|-i)
   |_=>none)
  | .BoolOp op es p=>(match es with
   |[]=>none
   |a::r=>match r with
    |[]=>cE T n sc N a
    |b::r=>(cE T n sc N a).bind λa'=>(cE T n sc N<|.BoolOp op (b::r) p).map λb'=>match op with
     | .And=>.and a' b'
     | .Or=>.or a' b')
  | .Compare a ops bs _=>(FU ops bs).elim ((one ops).elim ((lB ops).bind λo=>(lB bs).bind λb=>(cE T n sc N a).bind λa'=>(cE T n sc N b.1).bind λb'=>(cE T n sc N b.2).map λc'=>.chain o.1 o.2 a' b' c')
   λop=>(one bs).bind λb=>(cE T n sc N a).bind λa'=>(cE T n sc N b).map λb'=>.cmp op a' b') λo=>if T.calm=true then(cE T n sc N a).bind λa'=>(cE T n sc N o).map λo'=>.inV a' o' else none
  | .Subscript a b _=>(Gj b).elim (if iR b=true then(cE T n sc N a).bind λa'=>(cE T n sc N b).map λb'=>.ix a' b' else none)
   λq=>match q.1 with
    |none=>q.2.bind λh=>(cE T n sc N a).bind λa'=>(cE T n sc N h).map λh'=>.sl a' h' h' false true
    |some l=>(cE T n sc N a).bind λa'=>(cE T n sc N l).bind λl'=>match q.2 with
     |none=>some<|.sl a' l' l' true false
     |some h=>(cE T n sc N h).map λh'=>.sl a' l' h' true true
  | .Call f args kws cp=>(match kws with
   |[]=>(match f with
   | .Name f _=>if bE sc f=true then(Da f args).elim ((Dt f args).elim ((FB f args).elim (match args with
     |[]=>none
     |a::as=>(dM T.fns f).elim ((T.mks.lookup f).elim ((CC.lookup f).elim (if f= "isinstance" then(one as).bind λt'=>(qr t').bind λt=>if bE sc t=true then(cE T n sc N a).bind λa'=>(yp.lookup t).elim (if(T.sub t).isEmpty=false then some (.isk a'<|T.sub t) else none) λty=>some (.isi a' ty) else none else none)
       λb=>if T.calm=true then(vd T n sc N<|a::as).map (.bt b) else none)
       λj=>(vd T n sc N<|a::as).map<|.new f j)
       λi=>(vd T n sc N<|a::as).map<|.fn i)
     λo=>if T.calm=true then(cE T n sc N o).map .sit else none)
     λz=>if fX sc z.2.2.2 N z.2.2.1.1 z.2.2.1.2.1 z.2.2.1.2.2=true/\T.calm=true then(cE T n (cL sc z.2.2.2) (z.2.2.1.1::z.2.2.1.2.1::z.2.2.1.2.2::eJ z.2.2.2 N) z.1).bind λe'=>(cE T n sc N z.2.1).map λa'=>.sum3 a' e' else none)
     λz=>if cm sc z.2.2.2 N z.2.1=true/\T.calm=true then(cE T n (cL sc z.2.2.2) (z.2.1::eJ z.2.2.2 N) z.1).bind λe'=>(cE T n sc N z.2.2.1).map λa'=>.vmx a' e' else none
    else none
   | .Attribute o m ap=>if(eM o&&(ap.endLine==cp.line)&&decide (args.length<29))=true then(cE T n sc N o).bind λo'=>
     if xa m=true then(one args).bind λa=>if isZero a=true then some (.pop o') else none
     else(vd T n sc N args).map λas'=>.meth o' m (T.ims m) as' else none
   |_=>none)
   |[k]=>(match f with
   | .Name f _=>if bE sc f=true/\B9 k=true then(Da f args).bind λz=>if cm sc z.2.2.2 N z.2.1=true/\T.calm=true then(cE T n (cL sc z.2.2.2) (z.2.1::eJ z.2.2.2 N) z.1).bind λe'=>(cE T n sc N z.2.2.1).map λa'=>.vmd a' e' else none else none
   |_=>none)
   |_=>none)
  | .ListComp elt gens scope _=>(Ef gens).bind λq=>(qr q.1).elim ((Ap q.1).bind λz=>if c9 sc scope N z.1 z.2=true/\T.calm=true then
     (cE T n (cL sc scope) (z.1::z.2::eJ scope N) elt).bind λe'=>match q.2.2 with
      |[]=>(cE T n sc N q.2.1).map λa'=>.compU a' e'
      |_=>none
    else none)
    λx=>if T.calm=true/\cm sc scope N x=true then
     (DY x elt q.2.1 q.2.2).elim ((xQ q.2.1).elim (nz T n sc N false q.2.1 x elt q.2.2 scope) λra=>if ra.1= "range" /\bE sc ra.1=true then nz T n sc N true ra.2 x elt q.2.2 scope else nz T n sc N false q.2.1 x elt q.2.2 scope)
      λz=>(wI sc N z.1).bind λd=>(wI sc N z.2).bind λk=>(wI (cL sc scope) (x::eJ scope N) z.1).bind λd1=>(wI (cL sc scope) (x::eJ scope N) z.2).bind λk1=>if d1.2=d.2+1/\k1.2=k.2+1/\(cL sc scope).names.lookup x=some .local then some (.keq d.2 k.2) else none
    else none
  | .Attribute o f _=>if eM o=true then(cE T n sc N o).map (λo'=>.fld o' f []<|T.ics f) else none
  |_=>none
noncomputable def vd(T:Tab)(n:Nat)(sc:Scope)(N:List Str)(es:List Expr):Option (List Ex):=match n with
 |0=>none
 |n+1=>match es with
  |[]=>some []
  |e::r=>(cE T n sc N e).bind λe'=>(vd T n sc N r).map λr'=>e'::r'
noncomputable def nz(T:Tab)(n:Nat)(sc:Scope)(N:List Str)(rng:Bool)(src:Expr)(x:Str)(elt:Expr)(ifs:List Expr)(scope:Scope):Option Ex:=match n with
 |0=>none
 |n+1=>(cE T n sc N src).bind λs'=>(cE T n (cL sc scope) (x::eJ scope N) elt).bind λe'=>match ifs with
   |[]=>some<|.comp rng s' e'
   |c::r=>(match r with
    |[]=>if rng=false then(cE T n (cL sc scope) (x::eJ scope N) c).map λc'=>.compIf s' c' e' else none
    |_=>none)
end
structure LRel(K:aw)(H:Hp)(G:Nat->Addr)(m:Nat)(loc:Loc)(W:L2.St):Prop where
 len:loc.length=W.length
 at_:∀(i:Nat)(d:D),loc[i]? =some (some d)->∃v:V,W[i]? =some (some v)/\VRel K H G m d v
theorem LRel.ext{K:aw}{H':Hp}{G':Nat->Addr}{m':Nat}(L:LRel K H G m loc W)(E:Ext H H' G G' m m'):LRel K H' G' m' loc W:=
 ⟨L.len,λi d e=>let⟨v,h1,h2⟩:=L.at_ i d e;⟨v,h1,h2.ext E⟩⟩
def LRel.cons{K:aw}(L:LRel K H G m loc W)(r:VRel K H G m d v):LRel K H G m (some d::loc) (some v::W):=
 ⟨by simp[L.len],λi e h=>by
  cases i with
  |zero=>
   simp_all
  |succ i=>simpa using L.at_ i e (by simpa using h)⟩
theorem LRel.set{K:aw}(L:LRel K H G m loc W)(j:Nat)(r:VRel K H G m d v):LRel K H G m (loc.set j<|some d) (W.set j<|some v):=
 ⟨by simp[L.len],λi e h=>by
  by_cases hj:j=i
  .subst hj
   have I:=by have:=(au h).1;simpa using this
   rw[aY I] at h;cases h;exact⟨v,by rw[aY (by rw[<-L.len];exact I)],r⟩
  .rw[aS hj] at h;obtain⟨w,h1,J⟩:=L.at_ i e h
   simp_all⟩
def tE(K:aw)(m:Loc->M D):TE:=λW H Q=>∃G st loc,Sim K H G st/\LRel K H G st.length loc W/\b_ K H G st (m loc st) Q
def jg(K:aw)(H:Hp)(G:Nat->Addr)(st:aV)(r:R D)(Q:Bool->Hp->Prop):Prop:=match r with
 | .ok (.bl k) st'=>∀H' G',Ext H H' G G' st.length st'.length->Sim K H' G' st'->Q k H'
 |_=>False
def tT(K:aw)(m:Loc->M D):TT:=λW H Q=>∃G st loc,Sim K H G st/\LRel K H G st.length loc W/\jg K H G st (m loc st) Q
def xV(K:aw)(H:Hp)(G:Nat->Addr)(st:aV)(r:R (List D))(Q:List V->Hp->Prop):Prop:=match r with
 | .ok ds st'=>∀H' G' vs,Ext H H' G G' st.length st'.length->Sim K H' G' st'->VRels K H' G' st'.length ds vs->Q vs H'
 | .bad=>False
def tA(K:aw)(m:Loc->M (List D)):TA:=λW H Q=>∃G st loc,Sim K H G st/\LRel K H G st.length loc W/\xV K H G st (m loc st) Q
section
variable{K:aw}{H:Hp}{G:Nat->Addr}{st:aV}{W:L2.St}{loc:Loc}
def bp{m:Loc->M D}(S:Sim K H G st)(L:LRel K H G st.length loc W)(e:m loc st=.ok d st1)(k:∀H1 G1 v,Ext H H1 G G1 st.length st1.length->Sim K H1 G1 st1->VRel K H1 G1 st1.length d v->Q v H1):tE K m W H Q:=
 ⟨G,st,loc,S,L,by rw[e];exact k⟩
def mM{m:Loc->M D}{Q:Bool->Hp->Prop}{b:Bool}(S:Sim K H G st)(L:LRel K H G st.length loc W)(e:m loc st=.ok (.bl b) st1)(k:∀H1 G1,Ext H H1 G G1 st.length st1.length->Sim K H1 G1 st1->Q b H1):tT K m W H Q:=
 ⟨G,st,loc,S,L,by rw[e];exact k⟩
def k7{m:Loc->M (List D)}{Q:List V->Hp->Prop}{ds:List D}(S:Sim K H G st)(L:LRel K H G st.length loc W)(e:m loc st=.ok ds st1)(k:∀H1 G1 vs,Ext H H1 G G1 st.length st1.length->Sim K H1 G1 st1->VRels K H1 G1 st1.length ds vs->Q vs H1):tA K m W H Q:=
 ⟨G,st,loc,S,L,by rw[e];exact k⟩
def aP{m:M α}{f:α->M D}(P:b_ K H G st (bg m f st0) Q):∃a st1,m st0=.ok a st1/\b_ K H G st (f a st1) Q:=by
 unfold bg at P;cases e:m st0 with
 |ok a st1=>rw[e] at P;exact⟨a,st1,rfl,P⟩
 |bad=>rw[e] at P;exact P.elim
def fj{m:M α}{f:α->M D}{Q:Bool->Hp->Prop}(P:jg K H G st (bg m f st0) Q):∃a st1,m st0=.ok a st1/\jg K H G st (f a st1) Q:=by
 unfold bg at P;cases e:m st0 with
 |ok a st1=>rw[e] at P;exact⟨a,st1,rfl,P⟩
 |bad=>rw[e] at P;exact P.elim
def qj{m:M α}{f:α->M (List D)}{Q:List V->Hp->Prop}(P:xV K H G st (bg m f st0) Q):∃a st1,m st0=.ok a st1/\xV K H G st (f a st1) Q:=by
 unfold bg at P;cases e:m st0 with
 |ok a st1=>rw[e] at P;exact⟨a,st1,rfl,P⟩
 |bad=>rw[e] at P;exact P.elim
def bZ{o:Option α}{a:α}(e:eW o st0=.ok a st1):o=some a/\st1=st0:=by
 unfold eW at e;cases o with
 |none=>cases e
 |some b=>simp_all
def cz{b:Bool}(e:fh x=some b):x=.bl b:=by cases x<;>cases e;rfl
def xg{b:Int}(e:pT x=some b):x=.int b:=by cases x<;>cases e;rfl
def jg.inv{r:R D}{Q:Bool->Hp->Prop}(P:jg K H G st r Q):∃b st1,r=.ok (.bl b) st1/\∀H' G',Ext H H' G G' st.length st1.length->Sim K H' G' st1->Q b H':=by
 unfold jg at P;split at P
 .exact⟨_,_,rfl,P⟩
 trivial
def jg.mono{r:R D}{Q:Bool->Hp->Prop}{H1:Hp}(P:jg K H G st r Q)(E:Ext H H1 G G1 st.length st1.length):jg K H1 G1 st1 r Q:=by obtain⟨b,h,rfl,k⟩:=P.inv;exact λH' G' E' I=>k H' G' (E.trans E') I
end
def _root_.L2.PE.imp{e:Expr}{t t':TE}(h:PE X e t)(k:∀W H Q,t' W H Q->t W H Q):PE X e t':=λpins s W H Q I q=>h pins s W H Q I<|k W H Q q
def _root_.L2.PT.imp{e:Expr}{t t':TT}(h:PT X e t)(k:∀W H Q,t' W H Q->t W H Q):PT X e t':=λpins s W H Q I q=>h pins s W H Q I<|k W H Q q
def _root_.L2.PA.imp{t t':TA}(h:PA X es t)(k:∀W H Q,t' W H Q->t W H Q):PA X es t':=λpos pins s W H Q I q=>h pos pins s W H Q I<|k W H Q q
def io(K:aw)(E:XK)(H:Hp)(G:Nat->Addr)(st:aV)(r:R Rs)(Q:VK):Prop:=match r with
 | .ok (.v d) st'=>∀H' G' v,Ext H H' G G' st.length st'.length->Sim K H' G' st'->VRel K H' G' st'.length d v->Q v H'
 | .ok (.x n) st'=>∀H' G',Ext H H' G G' st.length st'.length->Sim K H' G' st'->E (.ref<|G' n) none H'
 | .bad=>False
def io.mono{K:aw}{E:XK}{r:R Rs}{H1:Hp}(P:io K E H G st r Q)(I:Ext H H1 G G1 st.length st1.length):io K E H1 G1 st1 r Q:=by
 cases r with
 |ok f st2=>
  cases f with
  |v d=>exact λH' G' v E' h J=>P H' G' v (I.trans E') h J
  |x n=>exact λH' G' E' h=>P H' G' (I.trans E') h
 |bad=>exact P
theorem io.val{K:aw}{m:M Rs}{E:XK}(P:b_ K H G st (bg m (λr=>eW r.val?) st1) Q):io K E H G st (m st1) Q:=by
 replace P:=aP P
 obtain⟨r,h,e,P⟩:=P;rw[e];cases r with
 |v d=>exact P
 |x n=>exact P.elim
def E7(K:aw)(n:Nat)(f:List D->M Rs):Sp:=λvs H Q E=>vs.length=n/\∃G st ds,Sim K H G st/\VRels K H G st.length ds vs/\io K E H G st (f ds st) Q
structure Ctx(T:Tab)(g:ft)(X:Cx)(sc:Scope)(N:List Str):Prop where
 sc:X.env.scope=sc
 n:X.N=N
 nd:N.Nodup
 nm:∀x∈N,(x==("__debug__":Str))=false/\(x==("__classdict__":Str))=false
 calm:T.calm=true->X.calm=true
 un:X.A.units+100<cLine
 fns:∀i f,T.fns[i]? =some f->(f==("__debug__":Str))=false/\∃a fd ps k,X.mg f=some (.ref a)/\PySem.W.keepIn X.K (.ref a)=true/\Binds X.K fd ps []/\Room k X.A/\(∀ds st,ds.length≠ps.length->g i ds st=R.bad)/\FnOk X.prog X.w X.K X.mg X.base (oY X.prog X.w) k a fd ps (E7 X.K ps.length<|g i)
 csts:∀x d,T.csts.lookup x=some d->(x==("__debug__":Str))=false/\∃u v,X.mg x=some u/\RelV v u/\∀H G m,VRel X.K H G m d v
 blt:∀x∈u8,X.mg x=none
 icl:∀c∈T.icl,∃C,PySem.W.nsIn X.K mainGlobals c.x=some (some<|.ref C)/\Cls X.K C/\(∀f∈c.flds,fZ X.K C f)/\(∀m j,(m,j)∈c.mts->∃a fd ps k,Meth X.K C m a/\Binds X.K fd ps []/\Room k X.A/\(∀ds st,ds.length≠ps.length->g j ds st=R.bad)/\FnOk X.prog X.w X.K X.mg X.base (oY X.prog X.w) k a fd ps (E7 X.K ps.length<|g j))
 mks:∀x j,(x,j)∈T.mks->(x==("__debug__":Str))=false/\∃C a fd ps k,PySem.W.nsIn X.K mainGlobals x=some (some<|.ref C)/\X.mg x=some (.ref C)/\Mk X.K C a/\Binds X.K fd ps []/\Room (k+1) X.A/\(∀ds st,ds.length≠ps.length->g j ds st=R.bad)/\FnOk X.prog X.w X.K X.mg X.base (oY X.prog X.w) k a fd ps (E7 X.K ps.length<|g j)
 isks:∀t,t∈T.isks->(t.1==("__debug__":Str))=false/\∃B C,PySem.W.nsIn X.K mainGlobals t.1=some (some<|.ref B)/\X.mg t.1=some (.ref B)/\PySem.W.nsIn X.K mainGlobals t.2=some (some<|.ref C)/\Cls X.K C/\PySem.W.findIn X.K (.ref C) "__class__"=some (some<|.builtin "object.__class__")/\
  PySem.W.specialIn X.K (.builtin "object.__class__") "__get__"=some (some<|.builtin "getset_descriptor.__get__")/\PySem.W.takesIn X.K (.builtin "object.__class__")=some true/\PySem.W.mroIn X.K C (.type "object")=some true/\PySem.W.kitOne X.K (.ref C) (.ref B)=some true
def Ed(K:aw)(tl:TE):TI:=λW H R=>tl W H λx H1=>∃a,x=.ref a/\(((∃xs,dG K H1 a xs)/\R (Fd K a) H1)\/((∃xs,dY K H1 a xs)/\R (Ge K a) H1))
def jv{tl:TE}(hl:PE X l tl):PI X tg l (Ed X.K tl):=by
 intro pins s W H R I h;refine bR (hl pins s W H _ I h) λv J hp=>?_;obtain⟨x,H1,Y,r1,q1⟩:=hp;obtain⟨a,rfl,⟨⟨xs,Z⟩,q⟩|⟨⟨xs,Z⟩,q⟩⟩:=q1
 .cases r1;obtain⟨its,rv,p,hz⟩:=Y.list Z;refine wpAny_pyIter_list p.isList ?_;refine⟨J.heap.objs.size,[J.heap.objs.size],_,_,H1,rfl,Y.kept (t':=J.toks) λb o e=>ac _ e,t5 a _,⟨_,aj _ rfl,rfl,rfl⟩,λb hb=>?_,q⟩;have e:=by simpa using hb
  subst e;exact Y.fpOk (af _)<|Y.hok.fresh<|af _
 .cases r1;obtain⟨its,rv,p,hz⟩:=Y.tuple Z;refine wpAny_pyIter_tuple (show J.heap.IsTuple a its.toArray from p) ?_;refine⟨J.heap.objs.size,[J.heap.objs.size],_,_,H1,rfl,Y.kept (t':=J.toks) λb o e=>ac _ e,qC a _,⟨_,aj _ rfl,rfl,rfl⟩,λb hb=>?_,q⟩;have e:b=J.heap.objs.size:=by simpa using hb
  subst e;exact Y.fpOk (af _)<|Y.hok.fresh<|af _
def cF(K:aw)(J:It)(s:Src)(H0:Hp)(G0:Nat->Addr)(m0:Nat):Prop:=∀H G st i,Ext H0 H G0 G m0 st.length->Sim K H G st->
 (iT s i st=some none->J.stop i H)/\∀x,iT s i st=some (some x)->J.go i H/\∀v H',J.yld i H v H'->H'=H/\VRel K H G st.length x v
def cF.tup{K:aw}{a:Addr}{I:Hp}{vs:List V}(h:dY K I a vs)(r:VRels K I G0 m0 xs vs):cF K (Ge K a) (.its xs) I G0 m0:=λH G st i E S=>by
 have l:=r.length;have h':=dY.ext E.toExt0 h;refine⟨λe=>?_,λx e=>?_⟩
 .have e:=ak e;exact⟨vs,h',by simp_all⟩
 .have e:=ak e;obtain⟨v,J,rv⟩:=(r.ext E).get e;refine⟨⟨vs,v,h',J⟩,λw H' y=>⟨y.1,?_⟩⟩;have:=y.2 vs h'
  simp_all
def cF.fl{K:aw}{a:Addr}{I:Hp}{vs:List V}(h:tZ K I a vs)(r:VRels K I G0 m0 xs vs):cF K (Fd K a) (.its xs) I G0 m0:=λH G st i E S=>by
 have l:=r.length;have h':=(tZ.ext E.toExt0 h).sql;refine⟨λe=>?_,λx e=>?_⟩
 .have e:=ak e;exact⟨vs,h',by simp_all⟩
 .have e:=ak e;obtain⟨v,J,rv⟩:=(r.ext E).get e;refine⟨⟨vs,v,h',J⟩,λw H' y=>⟨y.1,?_⟩⟩;have:=y.2 vs h'
  simp_all
def cF.ref{K:aw}{n:Nat}{Y:Hp}(J:n<m0):cF K (Fd K<|G0 n) (.at n) Y G0 m0:=λH G st i E S=>by
 simp only[iT];cases q:st[n]? with
 |none=>exact⟨λe=>(by cases e),λx e=>(by cases e)⟩
 |some o=>
  have h:=S.ob n o q;rw[E.ad n J] at h;cases o with
  |dcf _=>exact⟨λe=>(by cases e),λx e=>(by cases e)⟩
  |lst xs=>
   obtain⟨vs,h1,r⟩:=h;have l:=r.length;have h':dG K H (G0 n) vs:=dG.of h1;refine⟨λe=>?_,λx e=>?_⟩
   .have e:xs[i]? =none:=ak e;exact⟨vs,h',by have:=List.getElem?_eq_none_iff.mp e;lia⟩
   .have e:xs[i]? =some x:=ak e;obtain⟨v,I,rv⟩:=r.get e;refine⟨⟨vs,v,h',I⟩,λw H' y=>⟨y.1,?_⟩⟩;have:=y.2 vs h';rw[I] at this;cases this;exact rv
  |_=>simp
def cF.rng{K:aw}{I:Hp}{k:Nat}:cF K (CS 0 k) (.its<|bW k) I G0 m0:=λH G st i E S=>by
 refine⟨λe=>?_,λx e=>?_⟩
 .have e:=ak e;show k<=i;have:=List.getElem?_eq_none_iff.mp e;simpa[bW] using this
 .have e:=ak e
  have hi:i<k:=by have:=(au e).1;simpa[bW] using this
  have h:x=.int (i:Int):=by
   have:(bW k)[i]? =some (.int (i:Int)):=by simp[bW,hi]
   simp_all
  subst h;refine⟨hi,λv H' y=>⟨y.1,?_⟩⟩;have:=y.2;rw[this,Int.zero_add];exact .int _
def cF.rng2{K:aw}{I:Hp}{k:Nat}{lo:Int}:cF K (CS lo k) (.its<|dL lo k) I G0 m0:=λH G st i E S=>by
 refine⟨λe=>?_,λx e=>?_⟩
 .have e:=ak e;show k<=i;have:=List.getElem?_eq_none_iff.mp e;simpa[dL] using this
 .have e:=ak e
  have hi:i<k:=by have:=(au e).1;simpa[dL] using this
  have h:x=.int (lo+(i:Int)):=by
   have:(dL lo k)[i]? =some (.int<|lo+(i:Int)):=by simp[dL,hi]
   simp_all
  subst h;refine⟨hi,λv H' y=>⟨y.1,?_⟩⟩;have:=y.2;rw[this];exact .int _
structure EltOk(K:aw)(tc:TT)(te:TE)(f:Loc->D->M (Option D)):Prop where
 turn:∀{H:Hp}{G:Nat->Addr}{st st1:aV}{loc:Loc}{W:L2.St}{x:D}{v:V}{o:Option D}{Q:Option V->Hp->Prop},Sim K H G st->LRel K H G st.length loc W->VRel K H G st.length x v->f loc x st=.ok o st1->
  (∀H1 G1 w,Ext H H1 G G1 st.length st1.length->Sim K H1 G1 st1->(match o,w with|some y,some z=>VRel K H1 G1 st1.length y z|none,none=>True|_,_=>False)->Q w H1)->
  tc (some v::W) H λb H3=>if b=true then te (some v::W) H3 λy H4=>Q (some y) H4 else Q none H3
def mi(K:aw)(J:It)(s:Src)(H0:Hp)(G0:Nat->Addr)(m0:Nat):Prop:=∀H G st i,Ext H0 H G0 G m0 st.length->Sim K H G st->
 (iT s i st=some none->J.stop i H)/\∀x,iT s i st=some (some x)->J.go i H/\∀v H',J.yld i H v H'->Ext H H' G G st.length st.length/\Sim K H' G st/\VRel K H' G st.length x v
theorem Sim.tup{K:aw}(S:Sim K H G st){p:Addr}(I:H p=none):Ext H (upd H p<|.tup xs) G G st.length st.length/\Sim K (upd H p<|.tup xs) G st:=by
 have E:Ext H (upd H p<|.tup xs) G G st.length st.length:=⟨⟨af _,λ_ _=>rfl,λb ys e=>by rw[aq<|aE e I];exact e,λb Y u e=>by rw[aq<|aE e I];exact e⟩,λb Y e k=>⟨by rw[aq<|aE e I];exact e,k⟩⟩
 refine⟨E,S.inj,λn o e=>?_⟩;have Z:=(au e).1;have J:G n≠p:=by obtain⟨_,h,_⟩:=S.obj Z;exact aE h I
 have old:=S.ob n o e;exact old.move E.toExt0<|aq J
structure EltG(K:aw)(tt:V->Hp->(Option V->Hp->Prop)->Prop)(f:D->M (Option D))(H0:Hp)(G0:Nat->Addr)(m0:Nat):Prop where
 turn:∀{H:Hp}{G:Nat->Addr}{st st1:aV}{x:D}{v:V}{o:Option D}{Q:Option V->Hp->Prop},Ext H0 H G0 G m0 st.length->Sim K H G st->VRel K H G st.length x v->f x st=.ok o st1->
  (∀H1 G1 w,Ext H H1 G G1 st.length st1.length->Sim K H1 G1 st1->(match o,w with|some y,some z=>VRel K H1 G1 st1.length y z|none,none=>True|_,_=>False)->Q w H1)->tt v H Q
theorem lZ{K:aw}{tt:V->Hp->(Option V->Hp->Prop)->Prop}{f:D->M (Option D)}{J:It}{s:Src}{H0:Hp}(ok:EltG K tt f H G st.length)
  (F:mi K J s H G st.length)(E0:Ext H0 H G0 G st0.length st.length)(S:Sim K H G st)(P:b_ K H0 G0 st0 (bY f s st) Q):∀Dd,H Dd=none->∃W:Nat->Nat->List V->Hp->Prop,(∃m,W 0 m []<|upd H Dd<|.lst [])/\∀i m ys H2,W i m ys H2->
   (J.stop i H2/\Q (.ref Dd) H2)\/(J.go i H2/\∃N:List V->Hp->Prop,(∀ys' H',N ys' H'->∃m',m'<m/\W (i+1) m' ys' H')/\
    ∀x H',J.yld i H2 x H'->tt x H' λw H4=>match w with
     |some y=>H4 Dd=some (.lst ys)/\ys.length<sizeLine/\N (ys++[y]) (upd H4 Dd<|.lst<|ys++[y])
     |none=>N ys H4):=by
 intro Dd hD;have sz:sizeLine=16777216:=sizeLine_eq;unfold bY at P;split at P
 case isFalse=>exact P.elim
 case isTrue hz=>
 refine⟨λi m ys H2=>i+m<=1000001/\∃G2 I acc,Ext H H2 G G2 st.length I.length/\Sim K H2 G2 I/\H2 Dd=some (.lst ys)/\(∀n,n<I.length->G2 n≠Dd)/\VRels K H2 G2 I.length acc ys/\acc.length<=i/\
   b_ K H0 G0 st0 (bg (gY f s m i acc) alloc I) Q,⟨dn s st+1,by lia,G,st,[],?_,?_,aT,λn hn=>?_,.nil,af _,P⟩,?_⟩
 .exact⟨⟨af _,λ_ _=>rfl,λb xs e=>by rw[aq<|aE e hD];exact e,λb ob u e=>by rw[aq<|aE e hD];exact e⟩,λb ob e k=>⟨by rw[aq<|aE e hD];exact e,k⟩⟩
 .refine⟨S.inj,λn o e=>?_⟩;have hn:n<st.length:=(au e).1;have hne:G n≠Dd:=by obtain⟨_,h,_⟩:=S.obj hn;exact aE h hD
  have E:Ext0 H (upd H Dd<|.lst []) G G st.length st.length:=⟨af _,λ_ _=>rfl,λb xs e=>by rw[aq<|aE e hD];exact e,λb ob u e=>by rw[aq<|aE e hD];exact e⟩
  have old:=S.ob n o e;exact old.move E<|aq hne
 .obtain⟨_,h,_⟩:=S.obj hn;exact aE h hD
 .rintro i m ys H2 ⟨hm,G2,I,acc,E2,S2,hDd,ap,ra,la,P2⟩;obtain⟨zs,st9,Z,P9⟩:=aP P2;obtain⟨c1,c2⟩:=F H2 G2 I i E2 S2;cases m with
  |zero=>cases Z
  |succ m=>
   simp only[gY] at Z;cases en:iT s i I with
   |none=>rw[en] at Z;cases Z
   |some ox=>
    rw[en] at Z;cases ox with
    |none=>
     have Z:R.ok acc I=R.ok zs st9:=Z;cases Z;refine .inl ⟨c1 en,?_⟩;obtain⟨G',h1,h2,h3⟩:=S2.add hDd ap ra;have l:(I++[O.lst acc]).length=I.length+1:=by simp
     refine P9 H2 G' (.ref Dd) ?_ h3 ?_
     .rw[l];have E6:=E0.trans E2;refine⟨⟨le_succ_of_le E6.le,λn hn=>(h1 n<|av hn E6.le).trans<|E6.ad n hn,E6.tp,E6.fz⟩,λb ob e k=>?_⟩;obtain⟨g1,g2⟩:=E6.fr b ob e k;refine⟨g1,λn hn=>?_⟩;by_cases hn':n=I.length
      .rw[hn',h2];obtain⟨g3,_⟩:=E0.fr b ob e k;exact(aE g3 hD).symm
      .rw[h1 n (by omega)];exact g2 n (by omega)
     .rw[<-h2,l];exact .ref<|aK _
    |some x=>
     obtain⟨hgo,hyl⟩:=c2 x en
     refine .inr ⟨hgo,λys' H'=>∃G2 I acc,Ext H H' G G2 st.length I.length/\Sim K H' G2 I/\H' Dd=some (.lst ys')/\(∀n,n<I.length->G2 n≠Dd)/\VRels K H' G2 I.length acc ys'/\acc.length<=i+1/\
      b_ K H0 G0 st0 (bg (gY f s m (i+1) acc) alloc I) Q,λys' H' b=>⟨m,aK _,by lia,b⟩,λv H' y=>?_⟩
     obtain⟨EY,SY,rv⟩:=hyl v H' y;obtain⟨hDd,_⟩:=EY.fr Dd _ hDd ap
     replace E2:=E2.trans EY
     replace ra:=ra.ext EY
     simp only[bg] at Z;cases e3:f x I with
     |bad=>rw[e3] at Z;cases Z
     |ok o st3=>
      rw[e3] at Z;refine ok.turn E2 SY rv e3 λH4 G4 w E4 S4 r4=>?_;obtain⟨Y,ap4⟩:=E4.fr Dd _ hDd ap;cases o with
      |none=>
       cases w with
       |some _=>exact r4.elim
       |none=>
        have e9':gY f s m (i+1) acc st3=.ok zs st9:=Z;refine⟨G4,st3,acc,E2.trans E4,S4,Y,ap4,ra.ext E4,by lia,?_⟩
        unfold bg;rw[e9'];exact P9
      |some yd=>
       cases w with
       |none=>exact r4.elim
       |some yv=>
        have e9':gY f s m (i+1) (acc++[yd]) st3=.ok zs st9:=Z;have lra:=ra.length;refine⟨Y,by lia,G4,st3,acc++[yd],?_⟩
        have E5:Ext0 H4 (upd H4 Dd<|.lst<|ys++[yv]) G4 G4 st3.length st3.length:=⟨af _,λ_ _=>rfl,λb xs e=>by rw[aq<|cg e Y (by intro z;cases z)];exact e,λb ob u e=>by rw[aq<|cg e Y (by intro z;cases z)];exact e⟩
        refine⟨?_,⟨S4.inj,λn ob e=>?_⟩,aT,ap4,VRels.ext0 E5<|(ra.ext E4).append<|.cons r4 .nil,by simp;omega,?_⟩
        .have E6:=E2.trans E4;refine⟨⟨E6.le,E6.ad,λb xs e=>E5.tp b xs<|E6.tp b xs e,λb ob u e=>E5.fz b ob u<|E6.fz b ob u e⟩,λb ob e k=>?_⟩;obtain⟨g1,g2⟩:=E6.fr b ob e k;exact⟨by rw[aq<|aE e hD];exact g1,g2⟩
        .have hn:n<st3.length:=(au e).1;have old:=S4.ob n ob e;exact old.move E5<|aq<|ap4 n hn
        .unfold bg;rw[e9'];exact P9
def EG{K:aw}{J:It}{s:Src}{h:Hp}(F:cF K J s h G0 m0):mi K J s h G0 m0:=λH G st i E S=>by obtain⟨h1,Z⟩:=F H G st i E S;refine⟨h1,λx e=>?_⟩;obtain⟨Y,I⟩:=Z x e;refine⟨Y,λv H' y=>?_⟩;obtain⟨rfl,r⟩:=I v H' y;exact⟨Ext.refl _ _ _,S,r⟩
def fW{K:aw}{tc:TT}{te:TE}{f:Loc->D->M (Option D)}(ok:EltOk K tc te f){J:It}{s:Src}{H0:Hp}
  (F:cF K J s H G st.length)(E0:Ext H0 H G0 G st0.length st.length)(S:Sim K H G st)(L:LRel K H G st.length loc W)(P:b_ K H0 G0 st0 (bY (f loc) s st) Q):∀Dd,H Dd=none->∃Ww:Nat->Nat->List V->Hp->Prop,(∃m,Ww 0 m []<|upd H Dd<|.lst [])/\∀i m ys I,Ww i m ys I->
   (J.stop i I/\Q (.ref Dd) I)\/(J.go i I/\∃N:List V->Hp->Prop,(∀h H',N h H'->∃m',m'<m/\Ww (i+1) m' h H')/\
    ∀x H',J.yld i I x H'->tc (some x::W) H' λb Z=>if b=true then te (some x::W) Z λy Y=>Y Dd=some (.lst ys)/\ys.length<sizeLine/\N (ys++[y]) (upd Y Dd<|.lst<|ys++[y]) else N ys Z):=
 lZ ⟨λE S r ee k=>ok.turn S (L.ext E) r ee k⟩ (EG F) E0 S P
end Ev
namespace L2
section
end
end L2
namespace Ev
open L2
variable{a b c e:Expr}{xs:List Ex}{es r:List Expr}{H:Hp}{W:L2.St}{a' b' c' l':Ex}{st st1:aV}
section
variable{T:Tab}{g:ft}{X:Cx}{sc:Scope}{N:List Str}{pos p2:Pos}
def wq{m:Loc->M D}(h:PE X e (tE X.K m))(Y:∀whole,isTrue e X.env whole=(do let v <-whole;standAt e.pos;holding [v]<|truthy v)):PT X e (tT X.K m):=
 (Bp h Y).imp λW H Q J=>by
  obtain⟨G,st,loc,S,L,P⟩:=J;obtain⟨b,st1,e1,k⟩:=P.inv;exact bp S L e1 λH1 G1 v E1 Z I=>by cases I;exact⟨b,rfl,k H1 G1 E1 Z⟩
def h_(h:PE X e (tC v))(r:∀H G m,VRel X.K H G m d v):PE X e (tE X.K<|run g<|.c d):=
 h.imp λW H Q I=>by obtain⟨G,st,loc,S,L,P⟩:=I;exact P.same S<|r H G _
def xz{x:Str}{i:Nat}(C:Ctx T g X sc N)(hi:dM N x=some i)(h:xT sc x):PE X (.Name x pos) (tE X.K<|run g<|.v i):=by
 have J:X.N[i]? =some x:=by rw[C.n];exact ci hi
 obtain⟨h1,Y⟩:=C.nm x (ah<|ci hi);refine(q_ J (by rw[C.sc];exact h) h1 Y).imp λW H Q I=>?_
 obtain⟨G,st,loc,S,L,P⟩:=I;change b_ X.K H G st (eW _ st) Q at P;cases e:loc[i]? with
 |none=>rw[e] at P;exact P.elim
 |some o=>
  rw[e] at P;cases o with
  |none=>exact P.elim
  |some d=>obtain⟨v,h,r⟩:=L.at_ i d e;exact⟨v,h,P.same S r⟩
def AC{k:Nat}(J:PA X es (tA X.K<|runs g xs))(hz:es.length<=1000)(hl:es.length=xs.length):PE X (.Tuple es k pos) (tE X.K<|run g<|.tup xs):=
 (By J).imp λW H Q I=>by
  obtain⟨G,st,loc,S,L,P⟩:=I;obtain⟨ds,st1,e1,P⟩:=aP P;have sz:sizeLine=16777216:=sizeLine_eq;refine k7 S L e1 λH1 G1 vs Z Y h=>⟨?_,(P.mono Z).tup Y h⟩;have:=runs_len e1;have l:=h.length
  lia
where
 runs_len:∀{xs:List Ex}{loc:Loc}{st st1:aV}{ds:List D},runs g xs loc st=.ok ds st1->ds.length=xs.length
 |[],loc,st,st1,ds,e=>by cases e;rfl
 |x::xs,loc,st,st1,ds,e=>by
  change bg (run g x loc) _ st=_ at e;simp only[bg,ret] at e;split at e
  .split at e
   .rename_i e2;cases e;rw[length_cons,length_cons,runs_len e2]
   .cases e
  .cases e
def Eo(J:PA X es (tA X.K<|runs g xs))(hz:es.length<=1000)(hl:es.length=xs.length):PE X (.List es pos) (tE X.K<|run g<|.lst xs):=
 (BE J).imp λW H Q I=>by obtain⟨G,st,loc,S,L,P⟩:=I;obtain⟨ds,st1,e1,P⟩:=aP P;have sz:=sizeLine_eq;refine k7 S L e1 λH1 G1 vs Z Y h=>⟨?_,(P.mono Z).alloc Y h⟩;have:=AC.runs_len e1;have l:=h.length;omega
def CF(I:Inv X pins W H s):sysModules<s.heap.objs.size:=lt_trans (by decide) (show mainGlobals<s.heap.objs.size from(I.mod.glob.keeps I.bk).lt)
def Ew:PE X (.Dict [] [] pos) (tE X.K<|run g .emp):=by intro pins s W H Q I ⟨G,st,loc,S,L,P⟩;refine wpAny_Dict_empty ⟨.ref s.heap.objs.size,_,I.laid (λ_ _ q=>ac _ q) (af _) ?_,rfl,P.allocD S _<|I.hok.fresh<|af _⟩;exact⟨zero_le _,beq_eq_false_iff_ne.mpr<|Ne.symm<|al<|CF I,[],.nil,Heap.DictOf.new s.heap⟩
def sE{a b:Ex}{f:D->D->M D}{Q:VK}(h:tE X.K (λloc=>bg (run g a loc) λx=>bg (run g b loc) λy=>f x y) W H Q):AW (rD X.K f) (tE X.K<|run g a) (tE X.K<|run g b) W H Q:=by obtain⟨G,st,loc,S,L,P⟩:=h;obtain⟨x,st1,e1,P⟩:=aP P;obtain⟨y,I,e2,P⟩:=aP P;exact bp S L e1 λH1 G1 vx Y S1 r1=>bp S1 (L.ext Y) e2 λH2 G2 vy J S2 Z=>⟨G2,I,x,y,S2,r1.ext J,Z,P.mono<|Y.trans J⟩
def Ez{op:Operator}{o:Bo}(ho:EJ op=some o)(J:PE X a (tE X.K<|run g a'))(I:PE X b (tE X.K<|run g b')):PE X (.BinOp a op b pos) (tE X.K<|run g<|.bin o a' b'):=by
 have e:op=o.op:=by cases op<;>cases ho<;>rfl
 subst e;refine(DN (BQ o) J I).imp λW H Q h=>sE ?_;trivial
def Em(Y:PE X a (tE X.K<|run g a')):PE X (.UnaryOp .Not a pos) (tE X.K<|run g<|.not a'):=
 (BB Y).imp λW H Q J=>by
  obtain⟨G,st,loc,S,L,P⟩:=J;obtain⟨x,st1,e1,P⟩:=aP P;obtain⟨i,h,e2,P⟩:=aP P;obtain⟨Z,rfl⟩:=bZ e2;have:=cz Z;subst this;exact bp S L e1 λH1 G1 v E1 S1 I=>by cases I;exact⟨i,rfl,(P.mono E1).same S1<|.bl _⟩
def Dg(J:PT X a (tT X.K<|run g a')):PT X (.UnaryOp .Not a pos) (tT X.K<|run g<|.not a'):=
 (Bq J).imp λW H Q I=>by obtain⟨G,st,loc,S,L,P⟩:=I;obtain⟨x,st1,e1,P⟩:=fj P;obtain⟨i,h,Z,P⟩:=fj P;obtain⟨Y,rfl⟩:=bZ Z;have:=cz Y;subst this;exact mM S L e1 λH1 G1 E1 S1=>P H1 G1 E1 S1
def EA(ha:PE X a (tE X.K<|run g a'))(hb:PE X (.BoolOp .And (b::r) pos) (tE X.K<|run g b')):PE X (.BoolOp .And (a::b::r) pos) (tE X.K<|run g<|.and a' b'):=
 (BI ha hb).imp λW H Q Z=>by
  obtain⟨G,st,loc,S,L,P⟩:=Z;obtain⟨x,st1,e1,P⟩:=aP P;obtain⟨i,h,e2,P⟩:=aP P;obtain⟨e3,rfl⟩:=bZ e2;have:=cz e3;subst this;refine bp S L e1 λH1 G1 v I J Y=>?_;cases Y;refine⟨i,rfl,?_⟩;cases i with
  |true=>exact⟨G1,h,loc,J,L.ext I,P.mono I⟩
  |false=>exact(P.mono I).same J<|.bl false
def FY(ha:PE X a (tE X.K<|run g a'))(hb:PE X (.BoolOp .Or (b::r) pos) (tE X.K<|run g b')):PE X (.BoolOp .Or (a::b::r) pos) (tE X.K<|run g<|.or a' b'):=
 (DM ha hb).imp λW H Q Z=>by
  obtain⟨G,st,loc,S,L,P⟩:=Z;obtain⟨x,st1,e1,P⟩:=aP P;obtain⟨i,h,e2,P⟩:=aP P;obtain⟨e3,rfl⟩:=bZ e2;have:=cz e3;subst this;refine bp S L e1 λH1 G1 v I J Y=>?_;cases Y;refine⟨i,rfl,?_⟩;cases i with
  |false=>exact⟨G1,h,loc,J,L.ext I,P.mono I⟩
  |true=>exact(P.mono I).same J<|.bl true
def Am{op:BoolOp}{t:TT}(h:PT X (.BoolOp op es pos) t):PW X (.BoolOp op es pos) t:=λJ pins s W H Q I q=>by have:=h pins s W H Q I q;exact this
def Di(ha:PT X a (tT X.K<|run g a'))(Z:PT X (.BoolOp .And (b::r) pos) (tT X.K<|run g b')):PT X (.BoolOp .And (a::b::r) pos) (tT X.K<|run g<|.and a' b'):=
 (Bn ha<|Am Z).pt.imp λW H Q Y=>by
  obtain⟨G,st,loc,S,L,P⟩:=Y;obtain⟨x,st1,e1,P⟩:=fj P;obtain⟨i,h,e2,P⟩:=fj P;obtain⟨e3,rfl⟩:=bZ e2;have:=cz e3;subst this;refine mM S L e1 λH1 G1 I J=>?_;cases i with
  |true=>exact⟨G1,h,loc,J,L.ext I,P.mono I⟩
  |false=>exact P H1 G1 I J
def Fh(ha:PT X a (tT X.K<|run g a'))(Z:PT X (.BoolOp .Or (b::r) pos) (tT X.K<|run g b')):PT X (.BoolOp .Or (a::b::r) pos) (tT X.K<|run g<|.or a' b'):=
 (DI ha<|Am Z).pt.imp λW H Q Y=>by
  obtain⟨G,st,loc,S,L,P⟩:=Y;obtain⟨x,st1,e1,P⟩:=fj P;obtain⟨i,h,e2,P⟩:=fj P;obtain⟨e3,rfl⟩:=bZ e2;have:=cz e3;subst this;refine mM S L e1 λH1 G1 I J=>?_;cases i with
  |false=>exact⟨G1,h,loc,J,L.ext I,P.mono I⟩
  |true=>exact P H1 G1 I J
def Df{op:BoolOp}{t:TT}(h:PT X a t):PT X (.BoolOp op [a] pos) t:=by
 cases op with
 |And=>exact(yT h).pt
 |Or=>exact(Bm h).pt
def Ey(h:X.A.units+100<cLine){op:CmpOp}(J:behindInMarks op b=false)(Z:PE X a (tE X.K<|run g a'))(Y:PE X b (tE X.K<|run g b')):PE X (.Compare a [op] [b] pos) (tE X.K<|run g<|.cmp op a' b'):=
 (y4 (jw h op) Z Y J).imp λW H Q I=>by obtain⟨G,st,loc,S,L,P⟩:=I;exact sE ⟨G,st,loc,S,L,P⟩
def nS{m:Loc->M D}{t:TE}{Q:Bool->Hp->Prop}(k:∀I,tE X.K m W H I->t W H I)(h:tT X.K m W H Q):sk t W H Q:=by
 refine k _ ?_;obtain⟨G,st,loc,S,L,P⟩:=h;obtain⟨b,st1,e,q⟩:=P.inv;exact bp S L e λH1 G1 v Z Y J=>by cases J;exact⟨b,rfl,q H1 G1 Z Y⟩
def Dh(I:X.A.units+100<cLine){op:CmpOp}(Y:behindInMarks op b=false)(ha:PE X a (tE X.K<|run g a'))(Z:PE X b (tE X.K<|run g b')):PT X (.Compare a [op] [b] pos) (tT X.K<|run g<|.cmp op a' b'):=
 (sI (jw I op) ha Z Y).imp λW H Q h=>nS (λQ' J=>by obtain⟨G,st,loc,S,L,P⟩:=J;exact sE ⟨G,st,loc,S,L,P⟩) h
def pD{a b c:Ex}{op I:CmpOp}{Q:VK}(h:tE X.K (run g<|.chain op I a b c) W H Q):qI (rD X.K<|bS op) (rD X.K<|bS I) (tE X.K<|run g a) (tE X.K<|run g b) (tE X.K<|run g c) W H Q:=by
 obtain⟨G,st,loc,S,L,P⟩:=h;obtain⟨x,st1,e1,P⟩:=aP P;obtain⟨y,Z,e2,P⟩:=aP P;obtain⟨z,st3,e3,P⟩:=aP P;obtain⟨k,Y,e4,P⟩:=aP P;obtain⟨e5,rfl⟩:=bZ e4;have:=cz e5;subst this;refine bp S L e1 λH1 G1 vx E1 S1 r1=>bp S1 (L.ext E1) e2 λH2 G2 vy E2 S2 r2=>⟨G2,Z,x,y,S2,r1.ext E2,r2,?_⟩;rw[e3];intro H3 G3 vz E3 S3 r3;cases r3;refine⟨k,rfl,?_⟩;have E:=(E1.trans E2).trans E3;cases k with
 |true=>obtain⟨w,J,e5,P⟩:=aP (show b_ X.K H G st (bg (run g c loc) _ Y) Q from P);exact bp S3 (L.ext E) e5 λH5 G5 vw E5 S5 r5=>⟨G5,J,y,w,S5,(r2.ext E3).ext E5,r5,P.mono<|E.trans E5⟩
 |false=>exact(P.mono E).same S3<|.bl false
def zT(J:X.A.units+100<cLine){op I:CmpOp}(Y:behindInMarks I c=false)(ha:PE X a (tE X.K<|run g a'))(hb:PE X b (tE X.K<|run g b'))(Z:PE X c (tE X.K<|run g c')):PE X (.Compare a [op,I] [b,c] pos) (tE X.K<|run g<|.chain op I a' b' c'):=
 (wD (jw J op) (jw J I) ha hb Z Y).imp λW H Q h=>pD h
def yt(J:X.A.units+100<cLine){op I:CmpOp}(Y:behindInMarks I c=false)(ha:PE X a (tE X.K<|run g a'))(hb:PE X b (tE X.K<|run g b'))(Z:PE X c (tE X.K<|run g c')):PT X (.Compare a [op,I] [b,c] pos) (tT X.K<|run g<|.chain op I a' b' c'):=
 (wt (jw J op) (jw J I) ha hb Z Y).imp λW H Q h=>nS (λQ' h'=>pD h') h
def FZ(h:X.A.units+100<cLine)(I:iR b=true)(Z:PE X a (tE X.K<|run g a'))(Y:PE X b (tE X.K<|run g b')):PE X (.Subscript a b pos) (tE X.K<|run g<|.ix a' b'):=
 (An (FT h) Z Y (λo i=>by cases b<;>first|rfl|cases I)).imp λW H Q J=>by obtain⟨G,st,loc,S,L,P⟩:=J;exact sE ⟨G,st,loc,S,L,P⟩
def Cs{lo hi:Option Expr}{hl hh:Bool}{tl th:TO}(ha:PE X a (tE X.K<|run g a'))(I:PO X lo tl)(J:PO X hi th)
  (kl:∀{H:Hp}{G:Nat->Addr}{st st1:aV}{loc:Loc}{W:L2.St}{o:Option Int}{Q:Option Int->Hp->Prop},Sim X.K H G st->LRel X.K H G st.length loc W->(if hl=true then bg (run g l' loc) λz=>bg (eW<|pT z) λi=>ret (some i) else ret none) st=R.ok o st1->
   (∀H1 G1,Ext H H1 G G1 st.length st1.length->Sim X.K H1 G1 st1->Q o H1)->tl W H Q)
  (kh:∀{H:Hp}{G:Nat->Addr}{st st1:aV}{loc:Loc}{W:L2.St}{o:Option Int}{Q:Option Int->Hp->Prop},Sim X.K H G st->LRel X.K H G st.length loc W->(if hh=true then bg (run g h' loc) λz=>bg (eW<|pT z) λi=>ret (some i) else ret none) st=R.ok o st1->
   (∀H1 G1,Ext H H1 G G1 st.length st1.length->Sim X.K H1 G1 st1->Q o H1)->th W H Q):PE X (.Subscript a (.Slice lo hi none p2) pos) (tE X.K<|run g<|.sl a' l' h' hl hh):=
 (wB FA ha I J).imp λW H Q hp=>by obtain⟨G,st,loc,S,L,P⟩:=hp;obtain⟨x,st1,e1,P⟩:=aP P;obtain⟨ol,st2,e2,P⟩:=aP P;obtain⟨oh,h,e3,P⟩:=aP P;refine bp S L e1 λH1 G1 vx Z S1 r1=>kl S1 (L.ext Z) e2 λH2 G2 Y S2=>kh S2 ((L.ext Z).ext Y) e3 λH3 G3 E3 S3=>⟨G3,h,x,S3,(r1.ext Y).ext E3,P.mono<|(Z.trans Y).trans E3⟩
def sQ{G:Nat->Addr}{o:Option Int}{Q:Option Int->Hp->Prop}(S:Sim X.K H G st)(L:LRel X.K H G st.length loc W)(e:(if false=true then bg (run g l' loc) λz=>bg (eW<|pT z) λi=>ret (some i) else ret none) st=R.ok o st1)
  (k:∀H1 G1,Ext H H1 G G1 st.length st1.length->Sim X.K H1 G1 st1->Q o H1):so W H Q:=by
 cases e;exact k H G (Ext.refl _ _ _) S
def iS{G:Nat->Addr}{o:Option Int}{Q:Option Int->Hp->Prop}(S:Sim X.K H G st)(L:LRel X.K H G st.length loc W)(e:(if true=true then bg (run g l' loc) λz=>bg (eW<|pT z) λi=>ret (some i) else ret none) st=R.ok o st1)
  (k:∀H1 G1,Ext H H1 G G1 st.length st1.length->Sim X.K H1 G1 st1->Q o H1):Ai (tE X.K<|run g l') W H Q:=by
 rw[if_pos rfl] at e;simp only[bg,ret] at e;cases e1:run g l' loc st with
 |bad=>simp_all
 |ok z st2=>
  rw[e1] at e;simp only[eW] at e;cases e2:pT z with
  |none=>simp_all
  |some i=>
   rw[e2] at e;cases e;have:=xg e2;subst this;exact bp S L e1 λH1 G1 v J I h=>by cases h;exact⟨i,rfl,k H1 G1 J I⟩
def F0{f:Str}{i:Nat}{as:List Expr}(C:Ctx T g X sc N)(hg:bE sc f=true)(hi:dM T.fns f=some i)(ha:PA X (a::as) (tA X.K<|runs g xs))(hl:(a::as).length=xs.length)
  (he:starEach (a::as) X.env=(false,eval a X.env)::starEach as X.env)(h:(backTo pos<|starEach as X.env).any (·.1)=false):PE X (.Call (.Name f p2) (a::as) [] pos) (tE X.K<|run g<|.fn i xs):=by
 obtain⟨hd,ad,fd,ps,k,hm,kp,hb,hr,J,F⟩:=C.fns i f<|ci hi
 have I:Gl X f:=by show X.env.scope.names.lookup f=some .globalImplicit;rw[C.sc];simpa[bE] using hg
 refine(y7 F hr I hm kp hb .nil Ao ha hd he h).imp λW H Q hp=>?_;obtain⟨G,st,loc,S,L,P⟩:=hp;obtain⟨ds,st1,e1,P⟩:=aP P;refine k7 S L e1 λH1 G1 vs E1 S1 Y=>?_;rw[append_nil];refine⟨?_,G1,st1,ds,S1,Y,(io.val P).mono E1⟩;by_cases hps:ds.length=ps.length
 .rw[<-Y.length];exact hps
 .have Z:=io.val (E:=E0) P;rw[J ds st1 hps] at Z;exact Z.elim
def F4{f:Str}{b:Bt}{as:List Expr}(C:Ctx T g X sc N)(hcm:T.calm=true)(hg:bE sc f=true)(hb:CC.lookup f=some b)(ha:PA X (a::as) (tA X.K<|runs g xs))
  (Z:starEach (a::as) X.env=(false,eval a X.env)::starEach as X.env)(I:(backTo pos<|starEach as X.env).any (·.1)=false):PE X (.Call (.Name f p2) (a::as) [] pos) (tE X.K<|run g<|.bt b xs):=by
 have J:Gl X f:=by show X.env.scope.names.lookup f=some .globalImplicit;rw[C.sc];simpa[bE] using hg
 have Y:∀x:Str,x∈u8->X.mg x=none:=C.blt
 have key:PE X (.Call (.Name f p2) (a::as) [] pos) (Fv (rB X.K b)<|tA X.K<|runs g xs):=by
  have h:=aL hb;have cc:dg X b.val (rB X.K b):=rT (C.calm hcm) b;simp only[CC,mem_cons,mem_nil_iff,Prod.mk.injEq,or_false] at h;rcases h with⟨rfl,rfl⟩|⟨rfl,rfl⟩|⟨rfl,rfl⟩|⟨rfl,rfl⟩|⟨rfl,rfl⟩|⟨rfl,rfl⟩|⟨rfl,rfl⟩|⟨rfl,rfl⟩|⟨rfl,rfl⟩|⟨rfl,rfl⟩
  .exact e_ cc J (Y _ (by decide+kernel)) PySem.boot_len ha (by decide+kernel) (by decide+kernel) Z I
  all_goals first
   |exact mY cc J (Y _ (by decide+kernel)) (by decide+kernel) ha (by decide+kernel) (by decide+kernel) Z I
   |exact e_ cc J (Y _ (by decide+kernel)) (by decide+kernel) ha (by decide+kernel) (by decide+kernel) Z I
 refine key.imp λW H Q hp=>?_;obtain⟨G,st,loc,S,L,P⟩:=hp;obtain⟨ds,st1,e1,P⟩:=aP P;exact k7 S L e1 λH1 G1 vs E1 S1 r1=>⟨G1,st1,ds,S1,r1,P.mono E1⟩
end
end Ev
namespace L2
theorem PS.thawD{t:TS}(h:PS X e t):PS X e λD W H=>t {D with nx:=λW H=>Aa X (D.nx W) H} W H:=λpins s W H D I q=>
 bR (h pins s W H _ I q) λf s1 J=>by
  cases f with
  |next=>obtain⟨W',H',Z,a,o,kvs,e,Y,q2⟩:=J;exact⟨W',_,Z.thawD e Y,q2⟩
  |_=>exact J
end L2
namespace Ev
open L2
variable{sc scope:Scope}{x:Str}{e s' y:Ex}{i n:Nat}{b elt iter:Expr}
section
variable{T:Tab}{g:ft}{X:Cx}{sc:Scope}{N:List Str}{pos px:Pos}
def cy(C:Ctx T g X sc N)(h:cm sc scope N x=true):CompScope X x scope/\(x::eJ scope X.N).Nodup/\(x==("__debug__":Str))=false/\(x==("__classdict__":Str))=false:=by
 unfold cm at h;simp only[and_eq_true,all_eq_true] at h;obtain⟨⟨⟨⟨⟨⟨h1,h2⟩,h3⟩,h4⟩,h5⟩,Y⟩,h7⟩:=h;have Z:(x::eJ scope N).Nodup:=of_decide_eq_true h3;refine⟨⟨by simpa using h1,λy I=>?_,λy I J=>?_,by simpa using h2,λy I hf=>?_,λy I J=>?_⟩,by rw[C.n];exact Z,by simpa using h4,by simpa using h5⟩
 .obtain⟨⟨a,b⟩,c⟩:=Y y I;simpa using a
 .obtain⟨⟨a,b⟩,c⟩:=Y y I;rw[J] at b;simpa using b
 .obtain⟨⟨a,b⟩,c⟩:=Y y I;rw[hf] at c;have c':sc.names.lookup y.1=some .cell\/sc.names.lookup y.1=some .free:=by simpa using c
  show X.env.scope.names.lookup y.1=_\/X.env.scope.names.lookup y.1=_;rw[C.sc];exact c'
 .rw[C.n] at I;obtain⟨⟨a,b⟩,c⟩:=h7 y I;rw[J] at a;simpa using a
def Aq{y:Str}(C:Ctx T g X sc N)(h:cm sc scope N x=true)(J:y∈eJ scope N):(y==("__debug__":Str))=false/\(y==("__classdict__":Str))=false:=by
 unfold cm at h;simp only[and_eq_true,all_eq_true] at h;obtain⟨z,I,rfl⟩:=mem_map.mp J;split
 .obtain⟨⟨a,b⟩,c⟩:=h.2 z I;exact⟨by simpa using b,by simpa using c⟩
 .exact C.nm z I
def eD(C:Ctx T g X sc N)(h:cm sc scope N x=true)(fp:List Addr)(s:Shared)(H:Hp):Ctx T g (bI X x scope fp s H) (cL sc scope) (x::eJ scope N):=by
 obtain⟨h1,J,Z,Y⟩:=cy C h;refine⟨?_,?_,by rw[<-C.n];exact J,λy I=>?_,C.calm,C.un,C.fns,C.csts,C.blt,C.icl,C.mks,C.isks⟩
 .rw[<-C.sc];rfl
 .show x::eJ scope X.N=x::eJ scope N;rw[C.n]
 .rcases mem_cons.mp I with rfl|I
  .trivial
  .exact Aq C h I
def jH{K:aw}:EltOk K yu (tE K<|run g e) (λloc x=>bg (run g e<|some x::loc) λy=>ret<|some y) where
 turn:=λ{H G st st1 loc W x v o Q} S L rv e1 k=>by
  simp only[bg] at e1;cases e2:run g e (some x::loc) st with
  |bad=>simp_all
  |ok y st2=>rw[e2] at e1;cases e1;exact bp S (L.cons rv) e2 λH1 G1 w J I h=>k H1 G1 _ J I h
def Cq{K:aw}:EltOk K (tT K<|run g c) (tE K<|run g e) (λloc x=>bg (run g c<|some x::loc) λz=>bg (eW<|fh z) λk=>if k then bg (run g e<|some x::loc) λy=>ret (some y) else ret none) where
 turn:=λ{H G st st1 loc W x v o Q} S L rv e1 k=>by
  simp only[bg] at e1;cases e2:run g c (some x::loc) st with
  |bad=>rw[e2] at e1;cases e1
  |ok z st2=>
   rw[e2] at e1;simp only[eW] at e1;cases e3:fh z with
   |none=>rw[e3] at e1;cases e1
   |some b=>
    rw[e3] at e1;have:=cz e3;subst this;refine mM S (L.cons rv) e2 λH1 G1 h I=>?_;cases b with
    |true=>
     simp only[if_true,bg,ret] at e1;cases e4:run g e (some x::loc) st2 with
     |bad=>rw[e4] at e1;cases e1
     |ok y st3=>rw[e4] at e1;cases e1;exact bp I ((L.cons rv).ext h) e4 λZ G2 w E2 Y J=>k Z G2 (some w) (h.trans E2) Y J
    |false=>cases e1;exact k H1 G1 none h I True.intro
def ku{k:Loc->Src->M D}{W:L2.St}{H:Hp}{Q:VK}{RR:It->Hp->Prop}(h:tE X.K (λloc=>bg (run g s' loc) λd=>bg (eW<|cu false d) λs=>k loc s) W H Q)
  (hk:∀{J:It}{s:Src}{G G1:Nat->Addr}{st st1:aV}{loc:Loc}{H1:Hp},cF X.K J s H1 G1 st1.length->Ext H H1 G G1 st.length st1.length->Sim X.K H1 G1 st1->LRel X.K H1 G1 st1.length loc W->b_ X.K H G st (k loc s st1) Q->RR J H1)
  (Z:∀loc n st,(∀xs,st[n]?≠some (.lst xs))->k loc (.at n) st=.bad):Ed X.K (tE X.K<|run g s') W H RR:=by
 obtain⟨G,st,loc,S,L,P⟩:=h;obtain⟨d,st1,e1,P⟩:=aP P;obtain⟨s,Y,e2,P⟩:=aP P;obtain⟨e3,rfl⟩:=bZ e2;refine bp S L e1 λH1 G1 v I S1 r1=>?_;cases r1 with
 |tup h r=>cases e3;exact⟨_,rfl,.inr ⟨⟨_,h⟩,hk (cF.tup h r) I S1 (L.ext I) P⟩⟩
 |fl h r=>cases e3;exact⟨_,rfl,.inl ⟨⟨_,h.sql⟩,hk (cF.fl h r) I S1 (L.ext I) P⟩⟩
 | @ref n hn=>
  cases e3;cases q:Y[n]? with
  |none=>
   simp_all
  |some o=>
   cases o with
   |lst xs=>obtain⟨vs,h1,_⟩:=S1.ob n _ q;exact⟨_,rfl,.inl ⟨⟨vs,dG.of h1⟩,hk (cF.ref hn) I S1 (L.ext I) P⟩⟩
   |_=>
    rw[Z loc n Y (λxs z=>by rw[q] at z;cases z)] at P
    exact P.elim
 |_=>cases e3
def yw{k:Loc->Src->M D}{W:L2.St}{H:Hp}{Q:VK}{RR:It->Hp->Prop}(h:tE X.K (λloc=>bg (run g s' loc) λd=>bg (eW<|cu true d) λs=>k loc s) W H Q)
  (hk:∀{J:It}{s:Src}{G G1:Nat->Addr}{st st1:aV}{loc:Loc}{H1:Hp},cF X.K J s H1 G1 st1.length->Ext H H1 G G1 st.length st1.length->Sim X.K H1 G1 st1->LRel X.K H1 G1 st1.length loc W->b_ X.K H G st (k loc s st1) Q->RR J H1):
  Ax (Aj (tE X.K<|run g s') AX) W H RR:=by
 obtain⟨G,st,loc,S,L,P⟩:=h;obtain⟨d,st1,e1,P⟩:=aP P;obtain⟨s,Z,e2,P⟩:=aP P;obtain⟨I,rfl⟩:=bZ e2;refine bp S L e1 λH1 G1 v Y S1 r1=>?_;cases r1 with
 |int j=>
  simp only[cu] at I;split at I
  .cases I;exact⟨j,rfl,by lia,by omega,hk cF.rng Y S1 (L.ext Y) P⟩
  .cases I
 |_=>cases I
def sS{st:aV}(h:∀xs,st[n]?≠some (.lst xs)):iT (.at n) i st=none:=by
 show(match st[n]? with|some (.lst xs)=>some xs[i]?|_=>none)=none
 cases q:st[n]? with
 |none=>rfl
 |some o=>
  cases o with
  |lst xs=>exact absurd q<|h xs
  |_=>rfl
def jc{f:D->M (Option D)}(n:Nat)(st:aV)(h:∀xs,st[n]?≠some (.lst xs)):bY f (.at n) st=.bad:=by
 unfold bY;split
 .simp only[bg,gY,sS h]
 .rfl
def f9(g:ft)(X:Cx)(x:Str)(px:Pos)(iter:Expr)(ifs:List Expr)(elt:Expr)(scope:Scope)(y:Ex):Prop:=
 ∃wi tc te,PI X (.Name x px) iter wi/\(∀fp s H,yb (bI X x scope fp s H) ifs tc)/\(∀fp s H,PE (bI X x scope fp s H) elt te)/\(∀v,foldedSetIterable iter X.env v=pure v)/\∀W H Q,tE X.K (run g y) W H Q->pq wi tc te W H Q\/pq wi tc te W H λv H1=>Aa X (Q v) H1
def f9.pe(C:Ctx T g X sc N)(I:T.calm=true)(J:cm sc scope N x=true)(h:f9 g X x px iter ifs elt scope y):PE X (.ListComp elt [⟨.Name x px,iter,ifs,0⟩] scope pos) (tE X.K<|run g y):=by
 obtain⟨wi,tc,te,a,b,c,d,e⟩:=h;obtain⟨h1,Y,_,_⟩:=cy C J;have p:=oi (pos:=pos) (C.calm I) h1 Y (by rw[C.n];exact C.nd) a b c d
 exact(p.or p.thawD).imp e
def f9.ps{z:Str}(C:Ctx T g X sc N)(J:T.calm=true)(hc:cm sc scope N x=true)(h:f9 g X x px iter ifs elt scope y)(Y:X.N[i]? =some z)(Z:L2.Loc X.env.scope z)(hf:X.fn z=true\/X.env.scope.names.lookup z=some .local):
  PS X (.Assign [.Name z py] (.ListComp elt [⟨.Name x px,iter,ifs,0⟩] scope pos) spos) (qJ (tE X.K<|run g y)<|c6 i):=by
 obtain⟨wi,tc,te,a,b,c,d,e⟩:=h;obtain⟨h1,h2,_,_⟩:=cy C hc;have p:=qU (py:=py) (pos:=pos) (spos:=spos) (C.calm J) h1 h2 (by rw[C.n];exact C.nd) a b c d Y Z hf
 exact λpins s W H D I q=>(p.or p.thawD) pins s W H D I<|e _ _ _ q
variable{x:Str}{elt it:Expr}{scope:Scope}{s' c' e':Ex}
def Cw(C:Ctx T g X sc N)(hc:cm sc scope N x=true)(h:PE X it (tE X.K<|run g s'))(Z:∀fp s H,PE (bI X x scope fp s H) elt<|tE X.K<|run g e')(Y:∀v,foldedSetIterable it X.env v=pure v):
  f9 g X x px it [] elt scope (.comp false s' e'):=by
 refine⟨_,_,_,jv h,λ_ _ _=>iQ,Z,Y,λW H Q I=>?_⟩;obtain⟨G,st,loc,S,L,P⟩:=I;exact .inl<|ku (k:=λloc s=>bY (λx=>bg (run g e'<|some x::loc) λy=>ret<|some y) s) ⟨G,st,loc,S,L,P⟩ (λ{J s G G1 st st1 loc H1} F E S1 L1 P1=>fW (loc:=loc) jH F E S1 L1 P1)<|λ_=>jc
def xA(C:Ctx T g X sc N)(hc:cm sc scope N x=true)(I:PE X it (tE X.K<|run g s'))(h:∀fp s H,PT (bI X x scope fp s H) c<|tT X.K<|run g c')(he:∀fp s H,PE (bI X x scope fp s H) elt<|tE X.K<|run g e')(Z:∀v,foldedSetIterable it X.env v=pure v):
  f9 g X x px it [c] elt scope (.compIf s' c' e'):=by
 refine⟨_,_,_,jv I,λfp s H=>sH<|h fp s H,he,Z,λW H Q Y=>?_⟩;obtain⟨G,st,loc,S,L,P⟩:=Y
 exact .inl (ku (k:=λloc s=>bY (λx=>bg (run g c'<|some x::loc) λz=>bg (eW<|fh z) λk=>if k then bg (run g e'<|some x::loc) λy=>ret (some y) else ret none) s) ⟨G,st,loc,S,L,P⟩
  (λ{J s G G1 st st1 loc H1} F E S1 L1 P1=>fW (loc:=loc) Cq F E S1 L1 P1) (λ_=>jc))
variable{a:Expr}{p3 p4:Pos}
def zS(C:Ctx T g X sc N)(hc:cm sc scope N x=true)(hg:bE sc "range"=true)(h:starEach [a] X.env=[(false,eval a X.env)])(Y:PE X a (tE X.K<|run g s'))(he:∀fp s H,PE (bI X x scope fp s H) elt<|tE X.K<|run g e'):
  f9 g X x px (.Call (.Name "range" p3) [a] [] p4) [] elt scope (.comp true s' e'):=by
 have I:Gl X "range":=by show X.env.scope.names.lookup _=some .globalImplicit;rw[C.sc];simpa[bE] using hg
 refine⟨_,_,_,mX I (C.blt _ (by decide+kernel)) (cf Y dk h) h,λ_ _ _=>iQ,he,λ_=>rfl,λW H Q Z=>?_⟩
 obtain⟨G,st,loc,S,L,P⟩:=Z;exact .inl<|yw (k:=λloc s=>bY (λx=>bg (run g e'<|some x::loc) λy=>ret<|some y) s) ⟨G,st,loc,S,L,P⟩<|λ{J s G G1 st st1 loc H1} F E S1 L1 P1=>fW (loc:=loc) jH F E S1 L1 P1
end
def je{T:Tab}{N:List Str}{x:Ex}(h:cE T n sc N b=some x)(op:CmpOp):behindInMarks op b=false:=by
 cases n with
 |zero=>cases h
 |succ n=>cases b<;>first|rfl|cases h
def ia{T:Tab}{N:List Str}{x:Ex}(h:cE T n sc N b=some x)(env:Env)(v:Value):foldedSetIterable b env v=pure v:=by
 cases n with
 |zero=>cases h
 |succ n=>cases b<;>first|rfl|cases h
def cP{T:Tab}{N:List Str}{x:Ex}(h:cE T n sc N b=some x)(es:List Expr)(env:Env):starEach (b::es) env=(false,eval b env)::starEach es env:=by
 cases n with
 |zero=>cases h
 |succ n=>cases b<;>first|rfl|cases h
end Ev
namespace PySem
variable{i i1 i2 it l t z:Addr}{h h':Heap}{c c1 c2:Bool}{Q:Value->Shared->Prop}{d x y:Value}{qs:Array Value}
noncomputable def cV:Bool->Heap->Addr->Addr->Nat->Prop
 |true,h,i,l,k=>h.IsListIter i l k
 |false,h,i,l,k=>h.IsTupleIter i l k
noncomputable def dS:Bool->Heap->Addr->Array Value->Prop
 |true,h,l,ps=>h.IsList l ps
 |false,h,l,ps=>h.IsTuple l ps
noncomputable def pO:Bool->String
 |true=> "list_iterator"
 |false=> "tuple_iterator"
theorem cV.at{k:Nat}(j:cV c h i l k)(f:∀o,h.get? i=some o->h'.get? i=some o):cV c h' i l k:=by
 cases c
 .exact hU j f
 .exact Heap.IsListIter.at j f
theorem dS.at{ps:Array Value}(j:dS c h l ps)(f:∀o,h.get? l=some o->h'.get? l=some o):dS c h' l ps:=by
 cases c
 .exact iF j f
 .exact Heap.IsList.at j f
def cV.obj{k:Nat}(j:cV c h i l k):∃o,h.get? i=some o/\∀v,o.data≠ .cell v:=by
 cases c<;>obtain⟨o,q,_,d⟩:=j<;>exact⟨o,q,λv z=>by simp_all⟩
def dS.lt{ps:Array Value}(j:dS c h l ps):l<h.objs.size:=by cases c<;>obtain⟨o,e,_⟩:=j<;>exact ai e
section
variable{prog:Program}{w:World}{A:Around}{E:Value->Shared->Prop}{s:Shared}
def oA{i:Nat}{items:Array Value}(h:cV c s.heap it l i)(J:dS c s.heap l items)(I:items[i]? =some x)(Y:∀h',cV c h' it l (i+1)->Heap.SameBut it s.heap h'->Q x {s with heap:=h'}):
  wpAny (model prog w) A (Builtin.SmallTypes.nextOf<|.ref it) Q E s:=by
 cases c
 .exact vJ h J I Y
 .exact wpAny_nextOf_list_item h J I Y
def w9{i:Nat}{items:Array Value}(Y:A.handled=none)(h:cV c s.heap it l i)(J:dS c s.heap l items)(I:items[i]? =none)
  (Z:∀h' e,Heap.ExtBut it s.heap h'->(∃o,h'.get? e=some o/\o.cls=.type "StopIteration")->E (.ref e) {s with heap:=h'}):wpAny (model prog w) A (Builtin.SmallTypes.nextOf<|.ref it) Q E s:=by
 cases c
 .exact yq Y h J I Z
 .exact wpAny_nextOf_list_end Y h J I Z
def tG{items:Array Value}(h:dS c s.heap l items)
  (I:Q (.ref s.heap.objs.size) {s with heap:=s.heap.push {cls:= .type (pO c),data:= .fields #[.ref l,.int 0 0]}}):wpAny (model prog w) A (pyIter<|.ref l) Q E s:=by
 cases c
 .exact wpAny_pyIter_tuple h I
 .exact wpAny_pyIter_list h I
def cV.new(e:h.get? i=some {cls:= .type (pO c),data:= .fields #[.ref l,.int 0 0]}):cV c h i l 0:=by cases c<;>exact⟨_,e,rfl,rfl⟩
end
section
variable{prog:Program}{w:World}{A:Around}{E:Value->Shared->Prop}{s:Shared}
def vh{TI TO:Addr}{k:Nat}{ps:Array Value}{c:Value}(Z:ZipApart z TI TO i1 i2 t l)
  (gz:IsZip s.heap z TI TO .none)(gI:IsPair s.heap TI (.ref i1) (.ref i2))(gO:IsPair s.heap TO c d)(j1:cV c1 s.heap i1 t k)(j2:cV c2 s.heap i2 l k)(m1:dS c1 s.heap t ps)(m2:dS c2 s.heap l qs)(hx:ps[k]? =some x)(hy:qs[k]? =some y)
  (fin:∀g,IsZip g z TI TO (rawInt s.heap.objs.size)->IsPair g TO x y->cV c1 g i1 t (k+1)->cV c2 g i2 l (k+1)->IsPair g s.heap.objs.size x y->g.objs.size=s.heap.objs.size+1->
   (∀b o,b≠z->b≠TO->b≠i1->b≠i2->s.heap.get? b=some o->g.get? b=some o)->Q (.ref s.heap.objs.size) {s with heap:=g}):
  wpAny (model prog w) A (Builtin.«zip.__next__» ⟨[.ref z],[]⟩) (λr u=>∃v,r=.done (.ret v)/\Q v u) E s:=by
 show wpAny _ _ (field (.ref z) 2>>=_) _ _ _;refine aa<|bc gz rfl (x:= .bool false) rfl ?_;show wpAny _ _ (field (.ref z) 3>>=_) _ _ _;refine aa<|bc gz rfl (x:= .ref TI) rfl ?_;refine aa<|wpAny_seqItems gI rfl ?_;show wpAny _ _ (Builtin.SmallTypes.ownedTupleIsFree (.ref z)>>=_) _ _ _;refine aa ?_;unfold Builtin.SmallTypes.ownedTupleIsFree;refine aa<|bc gz rfl (x:= .none) rfl<|ae ?_;simp only[if_true];refine aa<|wpAny_rule<|aa<|bc gz rfl (x:= .ref TO) rfl ?_;refine aa<|bF gz (by simp) λg1 z1 b1=>?_
 replace z1:IsZip g1 z TI TO .ellipsis:=z1
 refine aa ?_;simp only[List.zipIdx_cons,List.zipIdx_nil,forIn_cons,forIn_nil];refine aa<|aa<|wpAny_onRaise ?_;show wpAny _ _ (Builtin.SmallTypes.nextOf (.ref i1)>>=_) _ _ _;have j1':cV c1 g1 i1 t k:=j1.at λo e=>b1.extBut _ _ Z.i1z e;have m1':dS c1 g1 t ps:=m1.at λo e=>b1.extBut _ _ Z.l1z e;refine aa<|oA (s:={s with heap:=g1}) j1' m1' hx λg2 j12 b2=>ae ?_
 replace b2:Heap.SameBut i1 g1 g2:=b2
 have o2:IsPair g2 TO c d:=b2.extBut _ _ Z.TOi1<|b1.extBut _ _ Z.TOz gO;refine aa<|wpAny_seqItems o2 rfl ?_;refine aa<|wpAny_updateSeq_pair o2 λg3 o3 Y=>?_
 replace o3:IsPair g3 TO x d:=o3
 replace Y:Heap.SameBut TO g2 g3:=Y
 refine aa<|wpAny_letGo<|ae<|aa<|aa<|wpAny_onRaise ?_;show wpAny _ _ (Builtin.SmallTypes.nextOf (.ref i2)>>=_) _ _ _;have up3:∀b o,b≠z->b≠i1->b≠TO->s.heap.get? b=some o->g3.get? b=some o:=λb o n1 n2 n3 e=>Y.extBut _ _ n3<|b2.extBut _ _ n2<|b1.extBut _ _ n1 e;refine aa<|oA (s:={s with heap:=g3}) (j2.at λo e=>up3 i2 o Z.i2z Z.i12.symm Z.TOi2.symm e) (m2.at λo e=>up3 l o Z.l2z Z.l2i1 Z.l2TO e) hy λg4 j24 J=>ae ?_
 replace J:Heap.SameBut i2 g3 g4:=J
 have o4:IsPair g4 TO x d:=J.extBut _ _ Z.TOi2 o3;refine aa<|wpAny_seqItems o4 rfl ?_;refine aa<|wpAny_updateSeq_pair o4 λh o5 I=>?_
 replace o5:IsPair h TO x y:=o5
 replace I:Heap.SameBut TO g4 h:=I
 refine aa<|wpAny_letGo<|ae<|ae<|aa<|wpAny_seqItems o5 rfl<|aa<|wpAny_newTuple ?_;have sz5:h.objs.size=s.heap.objs.size:=by rw[I.1,J.1,Y.1,b2.1,b1.1]
 have z5:IsZip h z TI TO .ellipsis:=I.extBut _ _ Z.TOz.symm (J.extBut _ _ Z.i2z.symm<|Y.extBut _ _ Z.TOz.symm<|b2.extBut _ _ Z.i1z.symm z1);have up5:∀b o,b≠z->b≠TO->b≠i1->b≠i2->s.heap.get? b=some o->h.get? b=some o:=λb o n1 n2 n3 n4 e=>I.extBut _ _ n2 (J.extBut _ _ n4<|up3 b o n1 n3 n2 e);have j15:cV c1 h i1 t (k+1):=j12.at λo e=>I.extBut _ _ Z.TOi1.symm (J.extBut _ _ Z.i12<|Y.extBut _ _ Z.TOi1.symm e);have j25:cV c2 h i2 l (k+1):=j24.at λo e=>I.extBut _ _ Z.TOi2.symm e;have ltz:z<h.objs.size:=ai z5;show wpAny _ _ (Builtin.SmallTypes.ownedTupleHandOut (.ref z) (.ref h.objs.size)>>=_) _ _ _;refine aa ?_;unfold Builtin.SmallTypes.ownedTupleHandOut;have z6:IsZip (h.push {cls:= .type "tuple",data:= .seq #[x,y]}) z TI TO .ellipsis:=ac _ z5;refine aa<|bF z6 (by simp) λg7 z7 b7=>?_
 replace z7:IsZip g7 z TI TO (rawInt h.objs.size):=z7
 refine bF z7 (by simp) λg8 z8 b8=>?_
 replace z8:IsZip g8 z TI TO (rawInt h.objs.size):=z8
 have up8:∀b o,b≠z->h.get? b=some o->g8.get? b=some o:=λb o n e=>b8.extBut _ _ n<|b7.extBut _ _ n<|ac _ e;have t8:IsPair g8 h.objs.size x y:=b8.extBut _ _ (bM ltz)<|b7.extBut _ _ (bM ltz)<|aj _ rfl;have sz8:g8.objs.size=h.objs.size+1:=by rw[b8.1,b7.1,Heap.size_push]
 rw[sz5] at z8 t8 sz8;refine ae ⟨_,rfl,?_⟩;show Q (.ref h.objs.size) _;rw[sz5];exact fin g8 z8 (up8 _ _ Z.TOz o5) (j15.at λo e=>up8 _ o Z.i1z e) (j25.at λo e=>up8 _ o Z.i2z e) t8 sz8 λb o n1 n2 n3 n4 e=>up8 b o n1<|up5 b o n1 n2 n3 n4 e
def vf{TI TO:Addr}{k:Nat}{ps:Array Value}{c:Value}{Q:Fin->Shared->Prop}(hh:A.handled=none)(Z:ZipApart z TI TO i1 i2 t l)
  (gz:IsZip s.heap z TI TO .none)(gI:IsPair s.heap TI (.ref i1) (.ref i2))(gO:IsPair s.heap TO c d)(j1:cV c1 s.heap i1 t k)(j2:cV c2 s.heap i2 l k)(m1:dS c1 s.heap t ps)(m2:dS c2 s.heap l qs)(hend:ps[k]? =none\/qs[k]? =none)
  (fin:∀g e,(∀b o,b≠z->b≠TO->b≠i1->b≠i2->s.heap.get? b=some o->g.get? b=some o)->(∃o,g.get? e=some o/\o.cls=.type "StopIteration")->E (.ref e) {s with heap:=g}):
  wpAny (model prog w) A (Builtin.«zip.__next__» ⟨[.ref z],[]⟩) Q E s:=by
 show wpAny _ _ (field (.ref z) 2>>=_) _ _ _;refine aa<|bc gz rfl (x:= .bool false) rfl ?_;show wpAny _ _ (field (.ref z) 3>>=_) _ _ _;refine aa<|bc gz rfl (x:= .ref TI) rfl ?_;refine aa<|wpAny_seqItems gI rfl ?_;show wpAny _ _ (Builtin.SmallTypes.ownedTupleIsFree (.ref z)>>=_) _ _ _;refine aa ?_;unfold Builtin.SmallTypes.ownedTupleIsFree;refine aa<|bc gz rfl (x:= .none) rfl<|ae ?_;simp only[if_true];refine aa<|wpAny_rule<|aa<|bc gz rfl (x:= .ref TO) rfl ?_;refine aa<|bF gz (by simp) λJ z1 b1=>?_
 replace z1:IsZip J z TI TO .ellipsis:=z1
 refine aa ?_;simp only[List.zipIdx_cons,List.zipIdx_nil,forIn_cons,forIn_nil];refine aa<|aa<|wpAny_onRaise ?_;show wpAny _ _ (Builtin.SmallTypes.nextOf (.ref i1)>>=_) _ _ _;have j1':cV c1 J i1 t k:=j1.at λo e=>b1.extBut _ _ Z.i1z e;have m1':dS c1 J t ps:=m1.at λo e=>b1.extBut _ _ Z.l1z e;cases hx:ps[k]? with
 |none=>
  refine aa<|w9 (s:={s with heap:=J}) hh j1' m1' hx λg2 e b2 he=>?_
  replace b2:Heap.ExtBut i1 J g2:=b2
  obtain⟨oe,h,I⟩:=he;have z2:IsZip g2 z TI TO .ellipsis:=b2 _ _ Z.i1z.symm z1;have ne:e≠z:=λq=>by cases q;rw[z2] at h;cases h;simp at I
  exact bF z2 (by simp) λg3 _ Y=>fin g3 e (λb o n1 _ n3 _ q=>Y.extBut _ _ n1<|b2 _ _ n3<|b1.extBut _ _ n1 q) ⟨oe,Y.extBut _ _ ne h,I⟩
 |some x=>
  have hy:qs[k]? =none:=by
   rcases hend with q|q
   .rw[hx] at q;cases q
   .exact q
  refine aa<|oA (s:={s with heap:=J}) j1' m1' hx λg2 j12 b2=>ae ?_
  replace b2:Heap.SameBut i1 J g2:=b2
  have o2:IsPair g2 TO c d:=b2.extBut _ _ Z.TOi1<|b1.extBut _ _ Z.TOz gO;refine aa<|wpAny_seqItems o2 rfl ?_;refine aa<|wpAny_updateSeq_pair o2 λg3 o3 Y=>?_
  replace Y:Heap.SameBut TO g2 g3:=Y
  refine aa<|wpAny_letGo<|ae<|aa<|aa<|wpAny_onRaise ?_;show wpAny _ _ (Builtin.SmallTypes.nextOf (.ref i2)>>=_) _ _ _;have up3:∀b o,b≠z->b≠i1->b≠TO->s.heap.get? b=some o->g3.get? b=some o:=λb o n1 n2 n3 e=>Y.extBut _ _ n3<|b2.extBut _ _ n2<|b1.extBut _ _ n1 e;refine aa<|w9 (s:={s with heap:=g3}) hh (j2.at λo e=>up3 i2 o Z.i2z Z.i12.symm Z.TOi2.symm e) (m2.at λo e=>up3 l o Z.l2z Z.l2i1 Z.l2TO e) hy λg4 e b4 he=>?_
  replace b4:Heap.ExtBut i2 g3 g4:=b4
  obtain⟨oe,h,I⟩:=he;have z4:IsZip g4 z TI TO .ellipsis:=b4 _ _ Z.i2z.symm (Y.extBut _ _ Z.TOz.symm<|b2.extBut _ _ Z.i1z.symm z1);have ne:e≠z:=λq=>by cases q;rw[z4] at h;cases h;simp at I
  exact bF z4 (by simp) λg5 _ b5=>fin g5 e (λb o n1 n2 n3 n4 q=>b5.extBut _ _ n1<|b4 _ _ n4<|up3 b o n1 n3 n2 q) ⟨oe,b5.extBut _ _ ne h,I⟩
def vg{TI TO:Addr}{k:Nat}{ps:Array Value}{c:Value}{Q:Option Value->Shared->Prop}(Z:ZipApart z TI TO i1 i2 t l)
  (I:IsZip s.heap z TI TO .none)(gI:IsPair s.heap TI (.ref i1) (.ref i2))(gO:IsPair s.heap TO c d)(Y:cV c1 s.heap i1 t k)(J:cV c2 s.heap i2 l k)(m1:dS c1 s.heap t ps)(m2:dS c2 s.heap l qs)(hx:ps[k]? =some x)(hy:qs[k]? =some y)
  (h:∀g,IsZip g z TI TO (rawInt s.heap.objs.size)->IsPair g TO x y->cV c1 g i1 t (k+1)->cV c2 g i2 l (k+1)->IsPair g s.heap.objs.size x y->g.objs.size=s.heap.objs.size+1->
   (∀b o,b≠z->b≠TO->b≠i1->b≠i2->s.heap.get? b=some o->g.get? b=some o)->Q (some<|.ref s.heap.objs.size) {s with heap:=g}):wpAny (model prog w) A (pyNext<|.ref z) Q E s:=by
 have ty:s.TypeIs (.ref z) "zip":=⟨_,I,rfl⟩
 exact aa (wpAny_attempt (wpAny_callSpecial?_slot ty F.slot_zip_next (wpAny_call_entry F.slot_zip_next ty F.entry_zip_next
  (vh Z I gI gO Y J m1 m2 hx hy λg a1 a2 a3 a4 a5 a6 a7=>ae<|h g a1 a2 a3 a4 a5 a6 a7) (F.args_zip_next_1 _))))
def vi{TI TO:Addr}{k:Nat}{ps:Array Value}{c:Value}{Q:Option Value->Shared->Prop}(hh:A.handled=none)(Z:ZipApart z TI TO i1 i2 t l)
  (J:IsZip s.heap z TI TO .none)(gI:IsPair s.heap TI (.ref i1) (.ref i2))(gO:IsPair s.heap TO c d)(j1:cV c1 s.heap i1 t k)(Y:cV c2 s.heap i2 l k)(m1:dS c1 s.heap t ps)(m2:dS c2 s.heap l qs)(h:ps[k]? =none\/qs[k]? =none)
  (I:∀g,(∀b o,b≠z->b≠TO->b≠i1->b≠i2->s.heap.get? b=some o->g.get? b=some o)->Q none {s with heap:=g}):wpAny (model prog w) A (pyNext<|.ref z) Q E s:=by
 have ty:s.TypeIs (.ref z) "zip":=⟨_,J,rfl⟩;unfold pyNext;refine aa<|wpAny_attempt<|wpAny_callSpecial?_slot ty F.slot_zip_next<|wpAny_call_entry F.slot_zip_next ty F.entry_zip_next (vf hh Z J gI gO j1 Y m1 m2 h λg e hk he=>?_)<|F.args_zip_next_1 _;obtain⟨o,h1,h2⟩:=he;exact aa<|wpAny_isInstance (b:=true) ⟨o,h1,h2⟩ isSubtype_stop<|ae<|I _ hk
end
abbrev zA(c1:Bool)(h:Heap)(t:Addr):Heap:=h.push {cls:= .type (pO c1),data:= .fields #[.ref t,.int 0 0]}
abbrev zB(c1 c2:Bool)(h:Heap)(t l:Addr):Heap:=(zA c1 h t).push {cls:= .type (pO c2),data:= .fields #[.ref l,.int 0 0]}
abbrev zC(c1 c2:Bool)(h:Heap)(t l:Addr):Heap:=(zB c1 c2 h t l).push {cls:= .type "tuple",data:= .seq #[.ref h.objs.size,.ref (zA c1 h t).objs.size]}
abbrev zD(c1 c2:Bool)(h:Heap)(t l:Addr):Heap:=(zC c1 c2 h t l).push {cls:= .type "tuple",data:= .seq #[.none,.none]}
abbrev zE(c1 c2:Bool)(h:Heap)(t l:Addr):Heap:=(zD c1 c2 h t l).push {cls:= .type "zip",data:= .fields #[.none,.bool false,.bool false,.ref (zB c1 c2 h t l).objs.size,.ref (zC c1 c2 h t l).objs.size]}
def ut(c1 c2:Bool)(t l:Addr)(ps qs:Array Value):Meets (Builtin.«zip.__new__» ⟨[.type "zip",.ref t,.ref l],[]⟩) (λ_ R s=>dS c1 s.heap t ps/\dS c2 s.heap l qs/\R (.ok<|.ret<|.ref (zD c1 c2 s.heap t l).objs.size) {s with heap:=zE c1 c2 s.heap t l}):=
 .of_wp λprog w A R s h=>by
  obtain⟨J,g,d,tk,os⟩:=s;obtain⟨Y,Z,h⟩:=h;have I:=sub_zip;have hT:dS c1 (Shared.heap ⟨J,g,d,tk,os⟩) t ps:=Y;have hL:dS c2 (Shared.heap ⟨J.push {cls:= .type (pO c1),data:= .fields #[.ref t,.int 0 0]},g,d,tk,os⟩) l qs:=Z.at λo e=>ac _ e
  wp_walk using tG hT,tG hL
  exact⟨_,rfl,h⟩
def xN{prog:Program}{w:World}{A:Around}{E:Value->Shared->Prop}{s:Shared}{ps:Array Value}(ht:dS c1 s.heap t ps)(hl:dS c2 s.heap l qs)
  (I:∀g,IsZip g (s.heap.objs.size+4) (s.heap.objs.size+2) (s.heap.objs.size+3) .none->IsPair g (s.heap.objs.size+2) (.ref s.heap.objs.size) (.ref<|s.heap.objs.size+1)->IsPair g (s.heap.objs.size+3) .none .none->
   cV c1 g s.heap.objs.size t 0->cV c2 g (s.heap.objs.size+1) l 0->(∀b o,s.heap.get? b=some o->g.get? b=some o)->Q (.ref<|s.heap.objs.size+4) {s with heap:=g}):
  wpAny (model prog w) A (call (.type "zip") [.ref t,.ref l]) Q E s:=by
 refine callType_new F.called_zip (by decide) (F.typeCall_zip_2 _ _) (F.newCall_zip_2 _ _) (λobj=>F.args_object_init_3 obj _ _) F.entry_zip_new (ut c1 c2 t l ps qs) ⟨ht,hl,?_⟩
 have n1:(zA c1 s.heap t).objs.size=s.heap.objs.size+1:=Heap.size_push ..;have n2:(zB c1 c2 s.heap t l).objs.size=s.heap.objs.size+2:=by rw[Heap.size_push,n1]
 have h:(zC c1 c2 s.heap t l).objs.size=s.heap.objs.size+3:=by rw[Heap.size_push,n2]
 have Y:(zD c1 c2 s.heap t l).objs.size=s.heap.objs.size+4:=by rw[Heap.size_push,h]
 have J:(zE c1 c2 s.heap t l).get? (zD c1 c2 s.heap t l).objs.size=some _:=aj _ rfl;have c4:(zE c1 c2 s.heap t l).get? (zC c1 c2 s.heap t l).objs.size=some _:=ac _<|aj _ rfl;have c3:(zE c1 c2 s.heap t l).get? (zB c1 c2 s.heap t l).objs.size=some _:=ac _<|ac _<|aj _ rfl;have Z:(zE c1 c2 s.heap t l).get? (zA c1 s.heap t).objs.size=some _:=ac _<|ac _<|ac _<|aj _ rfl;have d1:(zE c1 c2 s.heap t l).get? s.heap.objs.size=some _:=ac _<|ac _<|ac _<|ac _<|aj _ rfl;show _/\_;rw[n2,h,Y] at J;rw[n1,n2] at c3;rw[h] at c4;rw[n1] at Z;rw[Y]
 exact⟨⟨_,J,rfl⟩,I _ J c3 c4 (.new d1) (.new Z) λb o q=>
  ac _ (ac _<|ac _<|ac _<|ac _ q)⟩
end PySem
namespace L2
variable{pins:List (Addr×Obj)}{a b i1 i2 z:Addr}{c c1 c2:Bool}
def Inv.turns{W:St}{H:Hp}{h':Heap}{t':Nat}{fp:List Addr}(I:Inv X pins W H s)(J:∀b∈fp,fq X pins H b)
  (k:∀b o,b∉fp->s.heap.get? b=some o->h'.get? b=some o):Inv X pins W H {s with heap:=h',toks:=t'}:=by
 have Y:∀b u,H b=some u->b∉fp:=λb u e z=>by rw[(J b z).1] at e;cases e
 refine I.step (λb hb=>?_) (λb o _ _ h e _=>k b o h e) (λb o _ _ h e _=>⟨o.slots,k b o h e⟩) (λb o _ e n=>n)
  (λb o h e=>⟨o,k b o h e⟩) (λb ys e=>e) (λb o u e=>e) (λb ps e=>⟨#[],by rw[e];simp⟩) (λm Z=>?_) (λb u e=>?_) I.bare
 .obtain⟨f0,f1,f2,f3,f4,f5⟩:=J b hb;trivial
 .obtain⟨o,es,ep,ho,r⟩:=Z;exact⟨o,es,ep,k _ o (λz=>(J _ z).2.1 rfl) ho,r⟩
 .refine(I.hok b u e).stay (λc v h q=>k c v ?_ q) (λc q=>q) λc ys q=>q;rcases h with z|z
  .simp_all
  simp_all
def mn(K:aw):Bool->Hp->Addr->List V->Prop
 |true,H,a,xs=>dG K H a xs
 |false,H,a,xs=>dY K H a xs
def mn.inv{W:St}{H:Hp}(I:Inv X pins W H s)(h:mn X.K c H a xs):∃its:List Value,bq xs its/\dS c s.heap a its.toArray:=by
 cases c
 .obtain⟨its,rv,p,_⟩:=I.tuple h;exact⟨its,rv,(show s.heap.IsTuple a its.toArray from p)⟩
 .obtain⟨its,rv,p,_⟩:=I.list h;exact⟨its,rv,p.isList⟩
def mn.inj{W:St}{H:Hp}(I:Inv X pins W H s)(h:mn X.K c H a xs)(h':mn X.K c H a ys):xs=ys:=by
 cases c
 .exact I.tuple_inj h h'
 .exact I.list_inj h h'
noncomputable def Gd(K:aw)(c1 c2:Bool)(a b:Addr):It:=
 ⟨λi H=>∃xs ys x y,mn K c1 H a xs/\mn K c2 H b ys/\xs[i]? =some x/\ys[i]? =some y,
  λi H v H'=>∃p x y,v=.ref p/\H p=none/\H'=upd H p (.tup [x,y])/\(∀xs,mn K c1 H a xs->xs[i]? =some x)/\∀ys,mn K c2 H b ys->ys[i]? =some y,
  λi H=>∃xs ys,mn K c1 H a xs/\mn K c2 H b ys/\(xs.length<=i\/ys.length<=i)⟩
def CU(c1 c2:Bool)(z TI TO i1 i2 a b:Addr)(i:Nat)(h:Heap):Prop:=IsZip h z TI TO .none/\IsPair h TI (.ref i1) (.ref i2)/\(∃c d,IsPair h TO c d)/\cV c1 h i1 a i/\cV c2 h i2 b i
def rZ{TI TO:Addr}{i:Nat}(q:CU c1 c2 z TI TO i1 i2 a b i h):∀x∈[z,TI,TO,i1,i2],∃o,h.get? x=some o/\∀v,o.data≠ .cell v:=by
 obtain⟨q1,q2,⟨c,d,q3⟩,Y,J⟩:=q;intro x I;simp only[mem_cons,not_mem_nil,or_false] at I;rcases I with rfl|rfl|rfl|rfl|rfl
 .simp_all
 .simp_all
 .simp_all
 .exact Y.obj
 .exact J.obj
def vI{K:aw}{k:Nat}{TI TO:Addr}(Z:ZipApart z TI TO i1 i2 a b):Turn P w K (.Tuple elts k pos) (Gd K c1 c2 a b) [z,TI,TO,i1,i2] z (CU c1 c2 z TI TO i1 i2 a b) where
 mem:=by simp
 obj:=λi h st x Y=>rZ st x Y
 keep:=λi h h' ⟨q1,q2,⟨c,d,q3⟩,q4,q5⟩ kk=>⟨kk z (by simp) _ q1,kk TI (by simp) _ q2,⟨c,d,kk TO (by simp) _ q3⟩,q4.at λo q=>kk i1 (by simp) o q,q5.at λo q=>kk i2 (by simp) o q⟩
 item:=by
  intro X hP hw hK hc i pins s W H E I hf st hg;subst hP hw hK;have live:=rZ st;obtain⟨q1,q2,⟨c,d,q3⟩,q4,q5⟩:=st;obtain⟨xs,ys,x,y,hq,hr,Y,hy⟩:=hg;obtain⟨its,rv,p⟩:=mn.inv I hq;obtain⟨jts,rw',p'⟩:=mn.inv I hr;obtain⟨u,hu,ru⟩:=rv.get Y;obtain⟨v,hv,rv'⟩:=rw'.get hy;refine vg Z q1 q2 q3 q4 q5 p p' (x:=u) (y:=v) (by simpa using hu) (by simpa using hv) λg a1 a2 a3 a4 a5 a6 a7=>?_
  refine⟨_,rfl,wpAny_letOwnedTupleGo_zip a1 λh2 b1 b2=>?_⟩;have lt:∀{x:Addr},x∈[z,TI,TO,i1,i2]->x<s.heap.objs.size:=λY=>by obtain⟨o,e,_⟩:=live _ Y;exact ai e
  have ltz:z<s.heap.objs.size:=lt (by simp)
  have hn:H s.heap.objs.size=none:=I.hok.fresh<|af _;have t2:IsPair h2 s.heap.objs.size u v:=b2.extBut _ _ (bM ltz) a5
  have I2:Inv X pins W (upd H s.heap.objs.size<|.tup [x,y]) {s with heap:=h2,toks:=s.toks}:=by
   refine I.turnLaid (fp:=[z,TI,TO,i1,i2]) hf (λe o J q=>?_) (af _) ⟨(by show 2<=sizeLine;decide),[u,v],.cons ru<|.cons rv' .nil,?_⟩
   .simp only[mem_cons,not_mem_nil,or_false,not_or] at J;exact b2.extBut _ _ J.1<|a7 e o J.1 J.2.2.1 J.2.2.2.1 J.2.2.2.2 q
   .exact⟨_,t2,⟨rfl,rfl⟩,_,rfl⟩
  refine⟨.ref s.heap.objs.size,_,I2,rfl,⟨_,x,y,rfl,hn,rfl,λys hy=>by rw[mn.inj I hy hq];exact Y,λys' hy'=>by rw[mn.inj I hy' hr];exact hy⟩,⟨b1,b2.extBut _ _ Z.TIz<|a7 _ _ Z.TIz Z.TITO Z.TIi1 Z.TIi2 q2,⟨u,v,b2.extBut _ _ Z.TOz a2⟩,a3.at λo q=>b2.extBut _ _ Z.i1z q,a4.at λo q=>b2.extBut _ _ Z.i2z q⟩,λe J=>?_⟩
  rw[aq<|al<|lt J];exact(hf e J).1
 done:=by
  intro X hP hw hK hc i pins s W H E I hf st hg;subst hP hw hK;obtain⟨q1,q2,⟨c,d,q3⟩,q4,q5⟩:=st;obtain⟨xs,ys,hq,hr,Y⟩:=hg;obtain⟨its,rv,p⟩:=mn.inv I hq;obtain⟨jts,rw',p'⟩:=mn.inv I hr;have l1:=rv.length;have l2:=rw'.length;refine vi (I.ok.hd hc) Z q1 q2 q3 q4 q5 p p' (Y.imp (λq=>by simp;lia) λq=>by simp;lia) λg hk=>⟨rfl,I.turns (t':=s.toks) (fp:=[z,TI,TO,i1,i2]) hf λe o J q=>?_⟩
  simp_all
 self:=λ_ _ _ _ _ st h=>wpAny_pyIter_zip st.1 h
def FV(K:aw)(tl:TA):TI:=λW H R=>tl W H λvs H1=>∃c1 c2 a b,vs=[.ref a,.ref b]/\(∃xs,mn K c1 H1 a xs)/\(∃ys,mn K c2 H1 b ys)/\R (Gd K c1 c2 a b) H1
def Bw{k:Nat}{a b:Expr}{ta:TA}(hg:Gl X "zip")(hm:X.mg "zip"=none)(ha:PA X [a,b] ta)(hs:starEach [a,b] X.env=(false,eval a X.env)::starEach [b] X.env)(Z:starEach [b] X.env=[(false,eval b X.env)]):
  PI X (.Tuple elts k tp) (.Call (.Name "zip" p) [a,b] [] pos) (FV X.K ta):=by
 intro pins s W H R I h;refine Call_<|fF I hg hm boot_zip<|bC (bR (ha pos pins s W H _ I h) λus J ⟨vs,H1,I1,r1,q1⟩=>?_) hs (by rw[Z];rfl)
 obtain⟨c1,c2,a,b,e,⟨xs,hq⟩,⟨ys,hr⟩,q⟩:=q1;subst e;cases r1 with
 |cons r rr=>
  cases rr with
  |cons r' rr=>
   cases rr;subst r;subst r';obtain⟨its,rv,pt⟩:=mn.inv I1 hq;obtain⟨jts,rw',pl⟩:=mn.inv I1 hr;refine xN pt pl λg d1 d2 c3 c4 c5 hk=>?_;refine wpAny_pyIter_zip d1 ?_;have la:=pt.lt;have lb:=pl.lt;refine⟨_,[J.heap.objs.size+4,J.heap.objs.size+2,J.heap.objs.size+3,J.heap.objs.size,J.heap.objs.size+1],_,_,H1,rfl,I1.kept hk,vI<|PyProof.Rows.zipApart_new la lb,⟨d1,d2,⟨_,_,c3⟩,c4,c5⟩,λe he=>?_,q⟩
   have Y:J.heap.objs.size<=e:=by simp only[mem_cons,not_mem_nil,or_false] at he;rcases he with rfl|rfl|rfl|rfl|rfl<;>lia
   exact I1.fpOk Y<|I1.hok.fresh Y
end L2
namespace Ev
open L2
variable{st st1:aV}{G G0 G1:Nat->Addr}{elt it iter:Expr}{e' s':Ex}{z:Str}
noncomputable def cD:D->Bool
 | .tup _=>false
 |_=>true
def VRel.seqB{K:aw}{H:Hp}(S:Sim K H G st)(r:VRel K H G st.length d v)(e:bz st d=some xs):∃a vs,v=.ref a/\mn K (cD d) H a vs/\VRels K H G st.length xs vs:=by
 cases r with
 |tup h r=>cases e;exact⟨_,_,rfl,h,r⟩
 |fl h r=>cases e;exact⟨_,_,rfl,h.sql,r⟩
 | @ref n hn=>
  simp only[bz] at e;cases q:st[n]? with
  |none=>simp_all
  |some o=>
   rw[q] at e;cases o with
   |lst zs=>cases e;obtain⟨vs,h1,I⟩:=S.ob n _ q;exact⟨_,vs,rfl,dG.of h1,I⟩
   |_=>cases e
 |_=>cases e
theorem mi.zp{K:aw}{a b:Addr}{Z:Hp}{m0:Nat}(r1:VRel K Z G0 m0 x (.ref a))(r2:VRel K Z G0 m0 y (.ref b)):mi K (Gd K (cD x) (cD y) a b) (.zp x y) Z G0 m0:=λH G st i E S=>by
 simp only[iT];cases q1:bz st x with
 |none=>exact⟨λe=>(by cases e),λx e=>(by cases e)⟩
 |some xs=>
  cases q2:bz st y with
  |none=>exact⟨λe=>(by cases e),λx e=>(by cases e)⟩
  |some ys=>
   obtain⟨_,vs,z,h',r⟩:=(r1.ext E).seqB S q1;cases z;obtain⟨_,h,z,Y,g2⟩:=(r2.ext E).seqB S q2;cases z;have l:=r.length;have l2:=g2.length;dsimp only;refine⟨λe=>?_,λx e=>?_⟩
   .have e:=ak e;refine⟨vs,h,h',Y,?_⟩;cases e1:xs[i]? with
    |none=>exact .inl (by have:=List.getElem?_eq_none_iff.mp e1;omega)
    |some x=>
     cases e2:ys[i]? with
     |none=>exact .inr (by have:=List.getElem?_eq_none_iff.mp e2;omega)
     |some y=>rw[e1,e2] at e;cases e
   .have e:=ak e;cases e1:xs[i]? with
    |none=>rw[e1] at e;cases e
    |some x1=>
     cases e2:ys[i]? with
     |none=>rw[e1,e2] at e;cases e
     |some y1=>rw[e1,e2] at e;have e:D.tup [x1,y1]=x:=ak e;subst e;obtain⟨v,hv,rv⟩:=r.get e1;obtain⟨u,hu,ru⟩:=g2.get e2;refine⟨⟨vs,h,v,u,h',Y,hv,hu⟩,λw H' yy=>?_⟩;obtain⟨p,z1,z2,rfl,hp,rfl,J,I⟩:=yy;have k1:=J vs h';rw[hv] at k1;cases k1;have k2:=I h Y;rw[hu] at k2;cases k2;obtain⟨E1,S1⟩:=S.tup (xs:=[v,u]) hp;exact⟨E1,S1,.tup (.inl<|.inl aT)<|.cons (rv.ext E1)<|.cons (ru.ext E1) .nil⟩
def cF.toG{K:aw}{h:Hp}{m0:Nat}{J:It}{s:Src}(F:cF K J s h G0 m0):mi K J s h G0 m0:=λH G st i E S=>
 ⟨(F H G st i E S).1,λx e=>⟨((F H G st i E S).2 x e).1,λv H' y=>by obtain⟨rfl,r⟩:=((F H G st i E S).2 x e).2 v H' y;exact⟨Ext.refl _ _ _,S,r⟩⟩⟩
section
variable{T:Tab}{g:ft}{X:Cx}{sc scope:Scope}{N:List Str}{pos px py pt:Pos}{x y:Str}
def cU(h:c9 sc scope N x y=true):cm sc scope N x=true/\scope.names.lookup y=some .local/\(x::y::eJ scope N).Nodup/\(y==("__debug__":Str))=false/\(y==("__classdict__":Str))=false:=by
 unfold c9 at h
 simp_all
def jK(C:Ctx T g X sc N)(h:c9 sc scope N x y=true)(fp:List Addr)(s:Shared)(H:Hp):Ctx T g (iJ X x [y] scope fp s H) (cL sc scope) (x::y::eJ scope N):=by
 obtain⟨h1,h2,Y,h5,Z⟩:=cU h;have I:=eD C h1 fp s H;refine⟨I.sc,?_,?_,λz J=>?_,I.calm,I.un,I.fns,I.csts,I.blt,I.icl,I.mks,I.isks⟩
 .show x::y::eJ scope X.N=x::y::eJ scope N;rw[C.n]
 .exact Y
 .rcases mem_cons.mp J with rfl|J
  .exact I.nm _ mem_cons_self
  .rcases mem_cons.mp J with rfl|J
   .trivial
   .exact Aq C h1 J
def iH(g:ft)(X:Cx)(x y:Str)(px py:Pos)(k:Nat)(pt:Pos)(iter:Expr)(ifs:List Expr)(elt:Expr)(scope:Scope)(z:Ex):Prop:=
 ∃wi gg tc te,PI X (.Tuple [.Name x px,.Name y py] k pt) iter wi/\(∀fp s H,PG (iJ X x [y] scope fp s H) (.Tuple [.Name x px,.Name y py] k pt) gg)/\(∀fp s H,yb (iJ X x [y] scope fp s H) ifs tc)/\(∀fp s H,PE (iJ X x [y] scope fp s H) elt te)/\(∀v,foldedSetIterable iter X.env v=pure v)/\∀W H Q,tE X.K (run g z) W H Q->nU 2 wi gg tc te W H Q
def iH.pe{k:Nat}{z:Ex}(C:Ctx T g X sc N)(I:T.calm=true)(J:c9 sc scope N x y=true)(h:iH g X x y px py k pt iter ifs elt scope z):PE X (.ListComp elt [⟨.Tuple [.Name x px,.Name y py] k pt,iter,ifs,0⟩] scope pos) (tE X.K<|run g z):=by obtain⟨wi,Z,tc,te,a,b,c,d,e,f⟩:=h;obtain⟨h1,Y,_,_⟩:=cy C (cU J).1;exact(lA (C.calm I) h1 a b c d e).imp f
def iH.ps{k i:Nat}{z:Ex}{J:Str}(C:Ctx T g X sc N)(Y:T.calm=true)(hc:c9 sc scope N x y=true)(h:iH g X x y px py k pt iter ifs elt scope z)(hz:X.N[i]? =some J)(hl:L2.Loc X.env.scope J)(hf:X.fn J=true\/X.env.scope.names.lookup J=some .local):
  PS X (.Assign [.Name J Z] (.ListComp elt [⟨.Tuple [.Name x px,.Name y py] k pt,iter,ifs,0⟩] scope pos) spos) (qJ (tE X.K<|run g z)<|c6 i):=by
 obtain⟨wi,gg,tc,te,a,b,c,d,e,f⟩:=h;obtain⟨h1,h2,_,_⟩:=cy C (cU hc).1;exact λpins s W H D I q=>pG (C.calm Y) h1 (by rw[C.n];exact C.nd) a b c d e hz hl hf pins s W H D I<|f _ _ _ q
def pp{H:Hp}{W:L2.St}{o:Option D}{Q:Option V->Hp->Prop}(S:Sim X.K H G st)(L:LRel X.K H G st.length loc W)(k:∀H1 G1 w,Ext H H1 G G1 st.length st1.length->Sim X.K H1 G1 st1->(match o,w with|some y,some z=>VRel X.K H1 G1 st1.length y z|none,none=>True|_,_=>False)->Q w H1)(h:bg (run g e' loc) (λy=>ret<|some y) st=.ok o st1):tE X.K (run g e') W H λy Z=>Q (some y) Z:=by
 cases e5:run g e' loc st with
 |bad=>simp only[bg,e5] at h;cases h
 |ok w st5=>simp only[bg,e5] at h;cases h;exact bp S L e5 λY G5 w E5 J I=>k Y G5 _ E5 J I
def xK{k:Nat}(C:Ctx T g X sc N)(h:T.calm=true)(Y:c9 sc scope N x y=true):∀fp s H,PG (iJ X x [y] scope fp s H) (.Tuple [.Name x px,.Name y py] k pt) (xp X.K 2<|f6 (c6 0)<|f6 (c6 1) uJ):=by
 obtain⟨h1,Z,h3,h5,h6⟩:=cU Y;obtain⟨c1,c2,_,_⟩:=cy C h1;have J:(relabel scope X.env).names.lookup x=some .local:=lookup_relabel_local c1.own;have I:(relabel scope X.env).names.lookup y=some .local:=lookup_relabel_local Z
 have nd:(x::y::eJ scope X.N).Nodup:=by have:=(jK C Y [] X.s₀<|λ_=>none).nd;rw[C.n];exact this
 exact λfp s H=>wx (C.calm h)<|e8 (dW nd rfl (.inl J)<|.inr J)<|e8 (dW nd rfl (.inl I)<|.inr I) og
def uL{H1:Hp}{W:L2.St}(L:LRel X.K H1 G1 st1.length loc W):
  EltG X.K (λv H' K=>∀os:List (Option V),os.length=2->xp X.K 2 (f6 (c6 0)<|f6 (c6 1) uJ) v (os++W) H' λW2 H3=>(∃ps:List (Option V),ps.length=2/\W2=ps++W)/\yu W2 H3 λb I=>if b=true then tE X.K (run g e') W2 I λy H4=>K (some y) H4 else K none I) (pairF λa b=>run g e'<|some a::some b::loc) H1 G1 st1.length:=⟨by
 intro H2 G2 Y J z v o K E2 Z rv h k os ho;rcases os with _|⟨o1,_|⟨o2,_|⟨o3,os⟩⟩⟩<;>cases ho;unfold pairF at h;split at h
 .cases rv with
  |tup hq rr=>
   cases rr with
   |cons ra rr=>
    cases rr with
    |cons rb rr=>cases rr;exact⟨_,_,rfl,hq,rfl,_,_,rfl,_,_,rfl,rfl,⟨[_,_],rfl,rfl⟩,Eq.mpr (if_pos (e:=K none H2) (rfl:true=true))<|pp Z (((L.ext E2).cons rb).cons ra) k h⟩
 .cases h⟩
def zR{k:Nat}(C:Ctx T g X sc N)(h:T.calm=true)(hc:c9 sc scope N x y=true)(I:PE X it (tE X.K<|run g s'))(Z:∀v,foldedSetIterable it X.env v=pure v)(he:∀fp s H,PE (iJ X x [y] scope fp s H) elt<|tE X.K<|run g e'):
  iH g X x y px py k pt it [] elt scope (.compU s' e'):=by
 refine⟨_,_,_,_,jv I,xK C h hc,λfp s H=>iQ,he,Z,λW H Q Y=>?_⟩;obtain⟨G,st,loc,S,L,P⟩:=Y;exact ku (k:=λloc s=>bY (pairF λa b=>run g e'<|some a::some b::loc) s) (Q:=Q) ⟨G,st,loc,S,L,P⟩ (λ{J s G G1 st st1 loc H1} F E S1 L1 P1=>lZ (uL L1) (cF.toG F) E S1 P1)<|λ_=>jc
def gZ(h:fX sc scope N x y z=true):c9 sc scope N x y=true/\scope.names.lookup z=some .local/\(x::y::z::eJ scope N).Nodup/\(z==("__debug__":Str))=false/\(z==("__classdict__":Str))=false:=by
 unfold fX at h;simp only[and_eq_true] at h;obtain⟨⟨⟨⟨h1,Z⟩,Y⟩,J⟩,I⟩:=h;exact⟨h1,by simpa using Z,of_decide_eq_true Y,by simpa using J,by simpa using I⟩
def uU(C:Ctx T g X sc N)(h:fX sc scope N x y z=true)(fp:List Addr)(s:Shared)(H:Hp):Ctx T g (iJ X x [y,z] scope fp s H) (cL sc scope) (x::y::z::eJ scope N):=by
 obtain⟨h1,h2,Y,h5,Z⟩:=gZ h;have I:=jK C h1 fp s H;refine⟨I.sc,?_,Y,λv J=>?_,I.calm,I.un,I.fns,I.csts,I.blt,I.icl,I.mks,I.isks⟩
 .show x::y::z::eJ scope X.N=x::y::z::eJ scope N;rw[C.n]
 .rcases mem_cons.mp J with rfl|J
  .exact I.nm _ mem_cons_self
  .rcases mem_cons.mp J with rfl|J
   .exact I.nm _<|mem_cons_of_mem _ mem_cons_self
   .rcases mem_cons.mp J with rfl|J
    .trivial
    .exact I.nm _<|mem_cons_of_mem _<|mem_cons_of_mem _ J
def xJ{k:Nat}(C:Ctx T g X sc N)(h:T.calm=true)(hc:fX sc scope N x y z=true):∀fp s H,PG (iJ X x [y,z] scope fp s H) (.Tuple [.Name x px,.Name y py,.Name z Z] k pt) (xp X.K 3<|f6 (c6 0)<|f6 (c6 1)<|f6 (c6 2) uJ):=by
 obtain⟨h1,h2,h3,h5,h6⟩:=gZ hc;obtain⟨i1,i2,_,_,_⟩:=cU h1;obtain⟨c1,c2,_,_⟩:=cy C i1;have Y:(relabel scope X.env).names.lookup x=some .local:=lookup_relabel_local c1.own;have J:(relabel scope X.env).names.lookup y=some .local:=lookup_relabel_local i2;have I:(relabel scope X.env).names.lookup z=some .local:=lookup_relabel_local h2;have nd:(x::y::z::eJ scope X.N).Nodup:=by rw[C.n];exact h3
 exact λfp s H=>wx (C.calm h)<|e8 (dW nd rfl (.inl Y)<|.inr Y)<|e8 (dW nd rfl (.inl J)<|.inr J)<|e8 (dW nd rfl (.inl I)<|.inr I) og
def xy{H1:Hp}{W:L2.St}(L:LRel X.K H1 G1 st1.length loc W):
  EltG X.K (λv H' K=>∀os:List (Option V),os.length=3->xp X.K 3 (f6 (c6 0)<|f6 (c6 1)<|f6 (c6 2) uJ) v (os++W) H' λW2 H3=>(∃ps:List (Option V),ps.length=3/\W2=ps++W)/\yu W2 H3 λb I=>if b=true then tE X.K (run g e') W2 I λy H4=>K (some y) H4 else K none I) (mK λa b c=>run g e'<|some a::some b::some c::loc) H1 G1 st1.length:=⟨by
 intro H2 G2 Y J z v o K E2 Z rv h k os ho;rcases os with _|⟨o1,_|⟨o2,_|⟨o3,_|⟨o4,os⟩⟩⟩⟩<;>cases ho;unfold mK at h;split at h
 .cases rv with
  |tup hq rr=>
   cases rr with
   |cons ra rr=>
    cases rr with
    |cons rb rr=>
     cases rr with
     |cons rc rr=>cases rr;exact⟨_,_,rfl,hq,rfl,_,_,rfl,_,_,rfl,_,_,rfl,rfl,⟨[_,_,_],rfl,rfl⟩,Eq.mpr (if_pos (e:=K none H2) (rfl:true=true))<|pp Z ((((L.ext E2).cons rc).cons rb).cons ra) k h⟩
 .cases h⟩
def wy{k:Nat}(C:Ctx T g X sc N)(h:T.calm=true)(I:fX sc scope N x y z=true)(Z:PE X it (tE X.K<|run g s'))(hf:∀v,foldedSetIterable it X.env v=pure v)(he:∀fp s H,PE (iJ X x [y,z] scope fp s H) elt<|tE X.K<|run g e'):
  PE X (.ListComp elt [⟨.Tuple [.Name x px,.Name y py,.Name z Y] k pt,it,[],0⟩] scope pos) (tE X.K λloc=>bg (run g s' loc) λd=>bg (eW<|cu false d) λs=>bY (mK λa b c=>run g e'<|some a::some b::some c::loc) s):=by
 obtain⟨h1,_⟩:=cy C (cU (gZ I).1).1;exact(lA (C.calm h) h1 (jv Z) (xJ C h I) (λfp s H=>iQ) he hf).imp λW H Q hp=>ku hp (λ{J s G G1 st st1 loc H1} F E S1 L1 P1=>lZ (xy L1) (cF.toG F) E S1 P1)<|λ_=>jc
def CT{x y:D}(i:Nat)(h:bz st x=none\/bz st y=none):iT (.zp x y) i st=none:=by
 simp only[iT];rcases h with h|h
 .rw[h]
 simp_all
end
end Ev
namespace L2
section
variable{prog:Program}{w:World}{A:Around}{E:Value->Shared->Prop}{s:Shared}
theorem nj{it t:Addr}{items:Array Value}(h:t≠it):∀(n i:Nat)(s:Shared)(Q:List Value->Shared->Prop),s.heap.IsListIter it t i->s.heap.IsList t items->i+n<=items.size->
  (∀h',h'.IsListIter it t (i+n)->Heap.SameBut it s.heap h'->Q ((items.toList.drop i).take n) {s with heap:=h'})->wpAny (model prog w) A (draw (.ref it) n) Q E s
 |0,i,s,Q,hit,_,_,hQ=>by
  show wpAny _ _ (pure []) Q E s;exact ae (by simpa using hQ s.heap hit (Heap.SameBut.refl ..))
 |n+1,i,s,Q,hit,ht,hle,hQ=>by
  have I:i<items.size:=by lia
  show wpAny _ _ (pyNext (.ref it)>>=_) Q E s;refine aa<|wpAny_pyNext_list_item hit ht (x:=items[i]) (by simp[I]) λh₁ hit₁ hs₁=>?_
  replace hs₁:Heap.SameBut it s.heap h₁:=hs₁
  refine aa<|wpAny_holding<|nj h n (i+1) _ _ hit₁ (ht.at λo e=>(hs₁.2 t h).trans e) (by lia) λh₂ hit₂ hs₂=>ae ?_
  have hd:items.toList.drop i=items[i]::items.toList.drop (i+1):=by simp[List.drop_eq_getElem_cons,I]
  have:=hQ h₂ (by rw[show i+(n+1)=i+1+n by lia];exact hit₂)<|hs₁.trans hs₂
  rw[hd,take_succ_cons] at this;exact this
def jj{t:Addr}{items:Array Value}{Q:List Value->Shared->Prop}(Z:A.handled=none)(h:s.heap.IsList t items)
  (hQ:∀h',Heap.ExtBut s.heap.objs.size s.heap h'->Q items.toList {s with heap:=h'}):wpAny (model prog w) A (unpackItems (.ref t) items.size none) Q E s:=by
 have I:t≠s.heap.objs.size:=by obtain⟨o,ho,_⟩:=h;exact al<|ai ho
 unfold unpackItems;refine aa ?_
 .unfold notIterableAtAll;refine aa<|wpAny_specialOf h.typeIs slot_list_iter.lookup ?_;refine ae ?_;simp only[false_eq_true,if_false];refine aa<|wpAny_holding<|wpAny_pyIter_list h ?_;refine aa (wpAny_holding<|nj I items.size 0 _ _ ⟨_,aj _ rfl,rfl,rfl⟩ (h.at λo e=>ac _ e) (by lia) λh₁ hit₁ hs₁=>?_)
  have J:List.take items.size (List.drop 0 items.toList)=items.toList:=by
   rw[List.drop_zero];exact List.take_of_length_le (by simp)
  rw[J];rw[if_neg (by simp)]
  have ht₁:h₁.IsList t items:=h.at λo e=>(hs₁.2 t I).trans<|ac _ e;refine aa<|wpAny_holding<|wpAny_pyNext_list_end Z hit₁ ht₁ (by simp) λh₂ he₂=>?_
  refine ae<|hQ h₂ λb o Y e=>he₂ b o Y<|hs₁.extBut b o Y<|ac _ e
def jf{env:Env}{x1}{pos:Pos}{t:Addr}{items:Array Value}{Q:Unit->Shared->Prop}(Z:A.handled=none)(J:s.heap.IsList t items)
  (Y:(assignEach elts env).length=items.size)(I:(assignEach elts env).findIdx? (·.1)=none)
  (h:∀h',Heap.ExtBut s.heap.objs.size s.heap h'->wpAny (model prog w) A (assignInOrder ((assignEach elts env).map (·.2)) items.toList) Q E {s with heap:=h'}):
  wpAny (model prog w) A (assign (.Tuple elts x1 pos) env<|.ref t) Q E s:=by
 refine aa<|wpAny_standAt ?_;unfold unpack;rw[Y,I];exact aa<|wpAny_holding<|jj Z J h
end
section
variable{X:Cx}{pos:Pos}
def Eg(K:aw)(n:Nat)(t:ya):TG:=λv W H Q=>∃a xs,v=.ref a/\(dG K H a xs\/dY K H a xs)/\xs.length=n/\t xs W H Q
def qZ{k:Nat}{t:ya}{n:Nat}(hc:X.calm=true)(h:CQ X es t)
  (hn:(assignEach es X.env).length=n)(J:(assignEach es X.env).findIdx? (·.1)=none):PG X (.Tuple es k pos) (Eg X.K n t):=by
 intro pins s W H v u Q I r Z;obtain⟨a,xs,e1,Y,hl,Z⟩:=Z;subst e1;subst r;rcases Y with Y|Y
 .obtain⟨its,rv,ht,hz⟩:=I.list Y;refine jf (I.ok.hd hc) ht.isList (by simp[hn,<-hl,rv.length]) J λh' hx=>?_
  have I1:Inv X pins W H {s with heap:=h'}:=I.kept (t':=s.toks) λb o e=>hx b o (al<|ai e) e;exact h pins _ W H xs _ Q I1 (by simpa using rv) Z
 .obtain⟨its,rv,ht,hz⟩:=I.tuple Y;refine assign_Tuple_tuple (I.ok.hd hc) ht (by simp[hn,<-hl,rv.length]) J λh' hx=>?_
  have I1:Inv X pins W H {s with heap:=h'}:=I.kept (t':=s.toks) λb o e=>hx b o (al<|ai e) e;exact h pins _ W H xs _ Q I1 (by simpa using rv) Z
end
theorem pi{k:Key}:∀{xs:List (Key×V)}{p:Key×V},gt xs k=none->¬p.1=k->gt (xs++[p]) k=none
 |[],p,_,h=>by rw[nil_append,d9 h];rfl
 |q::xs,p,h,hp=>by
  by_cases e:q.1=k
  .rw[gq e] at h;cases h
  .rw[d9 e] at h;rw[cons_append,d9 e];exact pi h hp
theorem gw:∀(more kvs:List (Key×V)),(more.map (·.1)).Nodup->(∀k∈more.map (·.1),gt kvs k=none)->gx kvs more=kvs++more
 |[],kvs,_,_=>by show kvs=kvs++[];simp
 |p::r,kvs,hn,hd=>by
  rw[map_cons,nodup_cons] at hn;show gx (putK kvs p.1 p.2) r=_;rw[wo p.2<|hd p.1 (by simp),gw r _ hn.2 λk h=>?_]
  .simp
  .refine pi (hd k (by simp_all)) λe=>hn.1 (by rw[show p.1=k from e];exact h)
end L2
namespace PySem
open PySem.SeqAt (EqAt)
def jt:plainId "proto.contains_iter"=true:=by decide+kernel
def nh:entryFor table "proto.contains_iter"=some Builtin.«proto.contains_iter»:=entryFor_of_fast (by kernel_rfl)
def ff:typeLookup (.type "dict_values") "__contains__"=pure none:=by rw[typeLookup_type,builtinLookup_eq_fast];kernel_rfl
section
variable{prog:Program}{w:World}{A:Around}{s:Shared}{d it:Addr}{es:Array DictEntry}{ep:Nat}
def xL{x:Value}{f:Nat->Bool}{R:Result->Shared->Prop}(hh:A.handled=none)(hd:s.heap.RawD d es ep)(hf:s.heap.get? it=none)
  (he:∀(h':Heap)(j:Nat)(hj:j<es.size),(∀b o,s.heap.get? b=some o->h'.get? b=some o)->EqAt A.in1 {s with heap:=h'} es[j].val x (f j))
  (hR:∀(h':Heap),(∀b o,s.heap.get? b=some o->h'.get? b=some o)->R (.ok<|.ret<|.bool<|(range es.size).any f) {s with heap:=h'}):
  ∀(k i:Nat)(h':Heap),es.size - i=k->(range i).any f=false->i<=es.size->(∀b o,s.heap.get? b=some o->h'.get? b=some o)->h'.RawIt "dict_valueiterator" it d i es.size ep->
   codeAny (model prog w) A (.builtin "proto.contains_iter" ⟨[.ref it,x],[]⟩) R {s with heap:=h'}:=by
 intro k
 induction k with
 |zero=>
  intro i h' e hn hi Z J;refine codeAny_builtin nh ?_;rw[Around.under_plainId jt _];unfold Builtin.«proto.contains_iter»;refine aa<|yn (s:={s with heap:=h'}) hh J (hd.at λo q=>Z d o q) (by lia) λY eb=>?_
  refine aa<|wpAny_rule<|ae ?_;have:i=es.size:=by lia
  subst this;have:=hR Y λb o q=>eb b o (λz=>by cases z;rw[hf] at q;cases q)<|Z b o q
  rw[hn] at this;exact this
 |succ k ih=>
  intro i h' e hn hi Z J;have h:i<es.size:=by lia
  refine codeAny_builtin nh ?_;rw[Around.under_plainId jt _];unfold Builtin.«proto.contains_iter»;refine aa<|vD (s:={s with heap:=h'}) J (hd.at λo q=>Z d o q) h λY hit2 sb=>?_;have I:∀b o,s.heap.get? b=some o->Y.get? b=some o:=λb o q=>(sb.2 b λz=>by cases z;rw[hf] at q;cases q).trans<|Z b o q
  dsimp only;refine aa<|he Y i h I prog w _ _ ?_;cases hb:f i with
  |true=>have ha:(range es.size).any f=true:=any_eq_true.mpr ⟨i,mem_range.mpr h,hb⟩;have:=hR Y I;rw[ha] at this;exact aa<|wpAny_rule<|ae this
  |false=>
   refine ae ⟨plainId_quiet jt _,?_⟩;exact ih (i+1) Y (by lia) (by rw[range_succ,List.any_append,hn];simp[hb]) (by lia) I hit2
end
section
variable{prog:Program}{w:World}{A:Around}{E:Value->Shared->Prop}{s:Shared}{d v:Addr}{es:Array DictEntry}{ep:Nat}
def zF{x:Value}{f:Nat->Bool}{Q:Value->Shared->Prop}(J:A.handled=none)(h:s.heap.IsValuesView v d)(hd:s.heap.RawD d es ep)
  (Y:∀(h':Heap)(j:Nat)(hj:j<es.size),(∀b o,s.heap.get? b=some o->h'.get? b=some o)->EqAt A.in1 {s with heap:=h'} es[j].val x (f j))
  (Z:∀(h':Heap),(∀b o,s.heap.get? b=some o->h'.get? b=some o)->Q (.bool<|(range es.size).any f) {s with heap:=h'}):wpAny (model prog w) A (compareOp .In x<|.ref v) Q E s:=by
 refine aa ?_;unfold contains;refine wpAny_holding ?_;have e0:stdlibNamesSay? (.ref v) x=none:=rfl;rw[e0];dsimp only;refine aa<|wpAny_specialOf h.typeIs ff ?_;refine aa<|wpAny_callSpecialUnlessNone?_none h.typeIs ff ?_;dsimp only;refine aa<|wpAny_rule<|aa<|wpAny_tryCatch<|uf h hd ?_;refine aa<|wpAny_runValue ?_;have kp:∀b o,s.heap.get? b=some o->(s.heap.push {cls:= .type "dict_valueiterator",data:= .fields #[.ref d,.int 0 0,.int es.size 0,.int ep 0]}).get? b=some o:=λb o q=>ac _ q;refine xL (s:=s) (f:=f) J hd (Heap.get?_none_of_le<|af _) Y (λh' I=>?_) _ 0 _ rfl rfl (zero_le _) kp ⟨_,aj _ rfl,rfl,rfl⟩;exact ae<|ae<|Z h' I
end
end PySem
namespace L2
open PySem.SeqAt (EqAt)
def Dn(X:Cx)(ty td:TE):TE:=λW H Q=>ty W H λy H1=>td W H1 λx H2=>∃(a:Addr)(kvs:List (Key×V))(f:Nat->Bool),x=.ref a/\H2 a=some (.dK kvs)/\
 (∀pins (s:Shared)(u uv:Value)(j:Nat)(v:V),Inv X pins W H2 s->RelV y u->(kvs[j]?.map (·.2))=some v->RelV v uv->EqAt X.A.in1 s uv u (f j))/\Q (.bl<|(range kvs.length).any f) H2
theorem pairs_at{κ:Type}[DecidableEq κ]{knd:PySem.KeyKind P w κ}:∀{es:List DictEntry}{vs:List (κ×Value)},Pairs knd es vs->∀{j:Nat}{e:DictEntry},es[j]? =some e->∃k,vs[j]? =some (k,e.val)
 |_,_,.nil,j,e,h=>by simp at h
 |_,_,.cons (kv:=kv) h1 h2 t,0,e,h=>by
  simp only[List.getElem?_cons_zero,some.injEq] at h;exact⟨kv.1,by simp_all⟩
 |_,_,.cons h1 h2 t,j+1,e,h=>by simpa using pairs_at t (by simpa using h)
theorem KV.at{κ:Type}:∀{kvs:List (κ×V)}{vs:List (κ×Value)},KV kvs vs->∀{j:Nat}{k:κ}{u:Value},vs[j]? =some (k,u)->∃v,(kvs[j]?.map (·.2))=some v/\RelV v u
 |_,_,.nil,j,k,u,e=>by simp at e
 |_,_,.cons r t,0,k,u,e=>by
  simp_all
 |_,_,.cons r t,j+1,k,u,e=>by simpa using KV.at t (by simpa using e)
def BJ{X:Cx}{ty td:TE}{ap cp:Pos}(hc:X.calm=true)(hi:PE X i ty)(ho:PE X o td)(hb:attributeBase o "values" X.env (eval o X.env)=eval o X.env)(hl:(ap.endLine==cp.line)=true):PC X .In i (.Call (.Attribute o "values" ap) [] [] cp) (Dn X ty td):=by
 intro pins s W H Q I h;refine bR (hi pins s W H _ I h) λiv s1 ⟨y,H1,I1,ry,q1⟩=>wpAny_Call_method0_late hb hl (bR (ho pins s1 W H1 _ I1 q1) λu J hp=>?_);obtain⟨x,H2,Z,rx,a,kvs,f,ex,hd,hE,q2⟩:=hp;subst ex;obtain rfl:u=Value.ref a:=rx;obtain⟨z,hs,vs,rel,o',es,ep,h1,h2,h3,h4,h5,h6⟩:=lV Z.hok hd;have Y:J.heap.RawD a es ep:=⟨o',h1,h2,h3⟩;obtain⟨t1,t2,_⟩:=iw Z (.inl ⟨kvs,.inl hd⟩);refine⟨"dict","dict.values",PySem.F.plainAttrs_dict,PySem.F.slot_dict_values,PySem.F.type_dict_values,t1,t2,Calls.callWith_builtin rfl<|PySem.evalArgs_none<|qT hs Y ?_⟩;have kp:∀b o,J.heap.get? b=some o->(J.heap.push {cls:= .type "dict_values",data:= .fields #[.ref a]}).get? b=some o:=λb o q=>ac _ q;have sz:es.size=kvs.length:=by rw[<-length_toList,h5.length,<-rel.length]
 refine zF (f:=f) (I.ok.hd hc) ⟨_,aj _ rfl,rfl,rfl⟩ (Y.at λo q=>kp a o q) (λh' j hj hk=>?_)<|λh' hk=>?_
 .have e1:es.toList[j]? =some es[j]:=by simp[hj]
  obtain⟨k,e2⟩:=pairs_at h5 e1;obtain⟨v,e3,rv⟩:=KV.at rel e2;exact hE pins _ _ _ j v (Z.kept (t':=J.toks) λb o q=>hk b o<|kp b o q) ry e3 rv
 .rw[sz];exact⟨.bl _,H2,Z.kept (t':=J.toks) λb o q=>hk b o<|kp b o q,rfl,q2⟩
end L2
namespace Ev
open L2
variable{G G1:Nat->Addr}{H:Hp}{c f m t x:Str}{a o:Expr}{ap p3:Pos}{a' o':Ex}{st st1:aV}{xs:List Ex}
theorem DRels.zip{K:aw}{m:Nat}:∀{ks:List Str}{ds:List D}{vs:List V},VRels K H G m ds vs->DRels K H G m ((ks.zip ds).map λp=>(Sum.inr p.1,p.2)) ((ks.zip vs).map λq=>((Sum.inr q.1:Key),q.2))
 |[],_,_,_=>.nil
 |_::_,_,_,.nil=>.nil
 |_::_,_,_,.cons h t=>.cons h<|DRels.zip t
section
variable{T:Tab}{g:ft}{X:Cx}{sc:Scope}{N:List Str}{pos p2:Pos}
def fg(C:Ctx T g X sc N)(h:bE sc x=true):Gl X x:=by show X.env.scope.names.lookup _=some .globalImplicit;rw[C.sc];simpa[bE] using h
def dC(h:eM o=true)(m:Str)(env:Env):attributeBase o m env (eval o env)=eval o env:=by
 cases o with
 |Name=>rfl
 |Attribute=>rfl
 |Subscript=>rfl
 |Call f as ks p=>
  cases f with
  |Attribute=>rfl
  |Name=>
   cases as with
   |nil=>cases h
   |cons=>rfl
  |_=>cases h
 |_=>cases h
def Ct{cp kp:Pos}{k:Nat}(J:xa m=true)(hl:(ap.endLine==cp.line)=true)(hb:attributeBase o m X.env (eval o X.env)=eval o X.env)(ho:PE X o (tE X.K<|run g o')):
  PE X (.Call (.Attribute o m ap) [.Constant (.int 0) k kp] [] cp) (tE X.K<|run g<|.pop o'):=by
 have J:m= "pop":=by simpa[xa] using J
 subst J;refine(wE PySem.F.plainAttrs_list PySem.F.slot_list_pop PySem.F.type_list_pop wM ho (cf re dk rfl) hb rfl hl rfl rfl).imp λW H Q hp=>?_;obtain⟨G,st,loc,S,L,P⟩:=hp;obtain⟨x,st1,e1,P⟩:=aP P;refine bp S L e1 λH1 G1 v E1 S1 r1=>?_;unfold Bv at P;split at P
 .rename_i n;split at P
  .rename_i xs q;split at P
   .rename_i y hy;cases r1 with
    |ref hn=>
     obtain⟨vs,g1,Z⟩:=S1.ob _ _ q;obtain⟨u,Y,ru⟩:=Z.get hy;have h:0<vs.length:=(au Y).1;have hd:=Z.drop 1;obtain⟨E4,S4⟩:=S1.write q hd;have I:Ext H1 (upd H1 (G1 n)<|.lst<|vs.drop 1) G1 G1 st1.length (st1.set n<|O.lst<|xs.drop 1).length:=by rw[aG];exact E4
     refine⟨.inl ⟨rfl,vs,dG.of g1⟩,_,vs,0,0,u,rfl,rfl,g1,by decide,by decide,?_,Y,?_⟩
     .simp[seqIndex?,h]
     .have z:=P _ G1 _ (E1.trans I) S4 (ru.ext I)
      simp_all
   .exact P.elim
  .exact P.elim
 .exact P.elim
def SD(T:Tab)(g:ft)(n:Nat):Prop:=∀{X:Cx}{sc:Scope}{N:List Str}{es:List Expr}{xs:List Ex}{ks:List Str}{keys:List (Option Expr)}(pos:Pos),Ctx T g X sc N->vd T n sc N es=some xs->tP keys=some ks->ks.length=es.length->
 ∃trs,ES X pos keys es trs/\keys.length=es.length/\keys.all (·.isSome)=true/\∀{W:L2.St}{H:Hp}{G:Nat->Addr}{st:aV}{loc:Loc}{ds:List D}{st1:aV}{Q:List (V×V)->Hp->Prop},Sim X.K H G st->LRel X.K H G st.length loc W->runs g xs loc st=.ok ds st1->
  (∀H1 G1 vs,Ext H H1 G G1 st.length st1.length->Sim X.K H1 G1 st1->VRels X.K H1 G1 st1.length ds vs->Q ((ks.zip vs).map λp=>(V.str p.1,p.2)) H1)->nT trs W H Q
def yE{n:Nat}(h:∀{X:Cx}{sc:Scope}{N:List Str}{e:Expr}{x:Ex},Ctx T g X sc N->cE T n sc N e=some x->PE X e (tE X.K<|run g x))(hs:SD T g n):SD T g (n+1):=by
 intro X sc N es xs ks keys pos C e I Y;cases keys with
 |nil=>
  cases I;cases es with
  |cons=>cases Y
  |nil=>
   cases e;exact⟨[],sL,rfl,rfl,λ{W H G st loc ds st1 Q} S L e1 k=>by cases e1;exact k H G [] (Ext.refl _ _ _) S .nil⟩
 |cons k r=>
  obtain⟨kk,h0,I⟩:=bs I;obtain⟨ks2,hq,rfl⟩:=map_some I;obtain⟨_,_,rfl⟩:=vQ h0;cases es with
  |nil=>cases Y
  |cons a0 as0=>
   obtain⟨e',e2,e⟩:=bs e;obtain⟨Z,J,rfl⟩:=map_some e;obtain⟨trs,h1,h2,h3,h4⟩:=hs pos C J hq (by simpa using Y)
   refine⟨_,lu wz (h C e2) h1,by simp[h2],by simp[h3],λ{W H G st loc ds st1 Q} S L e1 k=>?_⟩
   change bg (run g e' loc) (λd=>bg (runs g Z loc) λds=>ret<|d::ds) st=_ at e1;unfold bg at e1;cases e5:run g e' loc st with
   |bad=>rw[e5] at e1;cases e1
   |ok d st2=>
    rw[e5] at e1;simp only[bg] at e1;cases e6:runs g Z loc st2 with
    |bad=>rw[e6] at e1;cases e1
    |ok ds2 st3=>rw[e6] at e1;cases e1;show tE X.K (run g e') W H _;exact bp S L e5 λH1 G1 v E1 S1 r1=>h4 S1 (L.ext E1) e6 λH2 G2 vs E2 S2 J=>k H2 G2 (v::vs) (E1.trans E2) S2<|.cons (r1.ext E2) J
def Cr{k:Nat}{y z:Str}{px py J pt p5:Pos}(C:Ctx T g X sc N)(hg:bE sc "sum"=true)(h:T.calm=true)(hc:fX sc scope N x y z=true)(Y:PE X it (tE X.K<|run g s'))(hf:∀v,foldedSetIterable it X.env v=pure v)(he:∀fp s H,PE (iJ X x [y,z] scope fp s H) elt<|tE X.K<|run g e'):
  PE X (.Call (.Name "sum" p2) [.ListComp elt [⟨.Tuple [.Name x px,.Name y py,.Name z J] k pt,it,[],0⟩] scope p5] [] pos) (tE X.K<|run g<|.sum3 s' e'):=by
 refine(e_ (rT (C.calm h) .sum) (fg C hg) (C.blt _ (by decide+kernel)) (by decide+kernel) (cf (wy C h hc Y hf he) dk) (by decide+kernel) (by decide+kernel)).imp λW H Q Z=>?_
 obtain⟨G,st,loc,S,L,P⟩:=Z;obtain⟨v,st1,e1,P⟩:=aP P;exact bp S L e1 λH1 G1 v E1 S1 I=>⟨G1,st1,[_],S1,.cons I .nil,P.mono E1⟩
def xE{K:aw}{H1:Hp}{p:Addr}{Q:VK}(hp:H p=none)(h:Ext H H1 G G1 st.length st1.length)(S1:Sim K H1 G1 st1)(J:H1 p=some (.dK []))(ap1:∀n,n<st1.length->G1 n≠p)
  (r:DRels K H1 G1 st1.length kvs vs)(P:b_ K H G st (.ok (.ref st1.length)<|st1++[.dct kvs]) Q):Q (.ref p) (upd H1 p<|.dK vs):=by
 have Y:Ext0 H1 (upd H1 p<|.dK vs) G1 G1 st1.length st1.length:=⟨af _,λ_ _=>rfl,λb ys e=>by rw[aq<|cg e J (by intro z;cases z)];exact e,λb I u e=>by rw[aq<|cg e J (by intro z;cases z)];exact e⟩
 have S2:Sim K (upd H1 p<|.dK vs) G1 st1:=⟨S1.inj,λn o e=>(S1.ob n o e).move Y<|aq<|ap1 n (au e).1⟩;obtain⟨G',g1,g2,g3⟩:=S2.addD aT ap1<|r.ext0 Y;have l:(st1++[O.dct kvs]).length=st1.length+1:=by simp
 refine P _ G' (.ref p) ?_ g3 (by rw[<-g2,l];exact .ref<|aK _)
 rw[l];refine⟨⟨le_succ_of_le h.le,λn Z=>(g1 n<|av Z h.le).trans<|h.ad n Z,λb ys e=>Y.tp b ys<|h.tp b ys e,λb I u e=>Y.fz b I u<|h.fz b I u e⟩,λb I e k=>?_⟩;obtain⟨g4,g5⟩:=h.fr b I e k;refine⟨by rw[aq<|aE e hp];exact g4,λn Z=>?_⟩
 by_cases hn':n=st1.length
 .rw[hn',g2];exact(aE e hp).symm
 .rw[g1 n (by omega)];exact g5 n (by omega)
def zQ{b c d:Expr}(ha:PE X a (tE X.K<|run g a'))(hb:PE X b (tE X.K<|run g b'))(hc:PE X c (tE X.K<|run g c'))(hd:PE X d (tE X.K<|run g d')):PE X (.Dict [some a,some c] [b,d] pos) (tE X.K<|run g<|.dict2 a' b' c' d'):=by
 refine(sP (lu ha hb<|lu hc hd sL) rfl rfl (by simp) (by simp)).imp λW H Q I=>?_
 obtain⟨G,st,loc,S,L,P⟩:=I;intro p I;obtain⟨k1,st1,e1,P⟩:=aP P;obtain⟨v1,st2,e2,P⟩:=aP P;obtain⟨k2,st3,e3,P⟩:=aP P;obtain⟨v2,st4,e4,P⟩:=aP P;have E0:Ext H (upd H p<|.dK []) G G st.length st.length:=⟨⟨af _,λ_ _=>rfl,λb ys e=>by rw[aq<|aE e I];exact e,λb ob u e=>by rw[aq<|aE e I];exact e⟩,λb ob e k=>⟨by rw[aq<|aE e I];exact e,k⟩⟩
 have Y:∀n,n<st.length->G n≠p:=λn hn=>by obtain⟨_,h,_⟩:=S.obj hn;exact aE h I
 have S0:Sim X.K (upd H p<|.dK []) G st:=⟨S.inj,λn o e=>(S.ob n o e).move E0.toExt0<|aq<|Y n (au e).1⟩;refine bp S0 (L.ext E0) e1 λH1 G1 u1 Z S1 r1=>bp S1 (L.ext<|E0.trans Z) e2 λH2 G2 w1 E2 S2 r2=>bp S2 (L.ext<|(E0.trans Z).trans E2) e3 λH3 G3 u2 E3 S3 r3=>bp S3 (L.ext<|((E0.trans Z).trans E2).trans E3) e4 λH4 G4 w2 E4 S4 r4=>?_;have EE:=(Z.trans E2).trans<|E3.trans E4;obtain⟨J,ap4⟩:=EE.fr p _ aT Y;unfold qf at P;cases k1 with
 |str s1=>
  cases k2 with
  |str s2=>
   simp only at P;split at P
   .rename_i hne;cases r1;cases r3;refine⟨J,[(.inr s1,w1),(.inr s2,w2)],rfl,by simp,?_⟩
    rw[gw _ [] (by simpa using λz=>hne z)<|λk _=>rfl,nil_append]
    exact xE I (E0.trans EE) S4 J ap4 (.cons ((r2.ext E3).ext E4)<|.cons r4 .nil) P
   .exact P.elim
  |_=>exact P.elim
 |_=>exact P.elim
def Cv{n:Nat}{k:Option Expr}{ks:List (Option Expr)}{I:List Str}(hs:SD T g n)(C:Ctx T g X sc N)(hk:tP (k::ks)=some I)(he:vd T n sc N es=some xs)(hl:I.length=es.length)(h15:I.length<=15)(J:I.Nodup):
  PE X (.Dict (k::ks) es pos) (tE X.K<|run g<|.dict I xs):=by
 obtain⟨trs,h1,h2,h3,h4⟩:=hs pos C he hk hl;refine(sP h1 h3 h2 (by simp) (by rw[h2,<-hl];exact h15)).imp λW H Q Y=>?_
 obtain⟨G,st,loc,S,L,P⟩:=Y;intro p Y;obtain⟨ds,st1,e1,P⟩:=aP P;have E0:Ext H (upd H p<|.dK []) G G st.length st.length:=⟨⟨af _,λ_ _=>rfl,λb ys e=>by rw[aq<|aE e Y];exact e,λb Z u e=>by rw[aq<|aE e Y];exact e⟩,λb Z e k=>⟨by rw[aq<|aE e Y];exact e,k⟩⟩
 have hap:∀n,n<st.length->G n≠p:=λn J=>by obtain⟨_,h,_⟩:=S.obj J;exact aE h Y
 have S0:Sim X.K (upd H p<|.dK []) G st:=by refine⟨S.inj,λn o e=>?_⟩;have J:n<st.length:=(au e).1;have old:=S.ob n o e;exact old.move E0.toExt0<|aq<|hap n J
 refine h4 S0 (L.ext E0) e1 λH1 G1 vs E1 S1 r1=>?_;obtain⟨hp1,ap1⟩:=E1.fr p _ aT hap;have lv:=r1.length;unfold allocK at P;split at P
 .rename_i hkd;refine⟨hp1,(I.zip vs).map<|λq=>((Sum.inr q.1:Key),q.2),?_,by simp;lia,?_⟩
  .rw[map_map];rfl
  .have hmk:gx [] ((I.zip vs).map<|λq=>((Sum.inr q.1:Key),q.2))=(I.zip vs).map (λq=>((Sum.inr q.1:Key),q.2)):=by
    rw[gw _ [] ?_<|λk _=>rfl,nil_append];rw[map_map];have e3:(λq:Key×V=>q.1) ∘ (λq:Str×V=>((Sum.inr q.1:Key),q.2))=(λs:Str=>(Sum.inr s:Key)) ∘ Prod.fst:=rfl;rw[e3,<-map_map,List.map_fst_zip (by lia)]
    exact Pairwise.map _ (λa b hab z=>hab<|Sum.inr.inj z) J
   rw[hmk];generalize hkv:(I.zip vs).map (λq=>((Sum.inr q.1:Key),q.2))=kvs;have E2:Ext0 H1 (upd H1 p<|.dK kvs) G1 G1 st1.length st1.length:=⟨af _,λ_ _=>rfl,λb ys e=>by rw[aq<|cg e hp1 (by intro z;cases z)];exact e,λb Z u e=>by rw[aq<|cg e hp1 (by intro z;cases z)];exact e⟩
   have S2:Sim X.K (upd H1 p<|.dK kvs) G1 st1:=by refine⟨S1.inj,λn o e=>?_⟩;have J:n<st1.length:=(au e).1;have old:=S1.ob n o e;exact old.move E2<|aq<|ap1 n J
   have rd:DRels X.K (upd H1 p<|.dK kvs) G1 st1.length ((I.zip ds).map λp=>(Sum.inr p.1,p.2)) kvs:=by have q:=DRels.zip (ks:=I)<|VRels.ext0 E2 r1;rw[hkv] at q;exact q
   obtain⟨G',g1,g2,g3⟩:=S2.addD aT ap1 rd;have l:(st1++[O.dct<|(I.zip ds).map λp=>(Sum.inr p.1,p.2)]).length=st1.length+1:=by simp
   refine P _ G' (.ref p) ?_ g3 ?_
   .rw[l];have E6:=E0.trans E1;refine⟨⟨le_succ_of_le E6.le,λn J=>(g1 n<|av J E6.le).trans<|E6.ad n J,λb ys e=>E2.tp b ys<|E6.tp b ys e,λb Z u e=>E2.fz b Z u<|E6.fz b Z u e⟩,λb Z e k=>?_⟩;obtain⟨g4,g5⟩:=E6.fr b Z e k;refine⟨by rw[aq<|aE e Y];exact g4,λn J=>?_⟩
    by_cases hn':n=st1.length
    .rw[hn',g2];exact(aE e Y).symm
    .rw[g1 n (by omega)];exact g5 n (by omega)
   .rw[<-g2,l];exact .ref<|aK _
 .exact P.elim
end
section
variable{T:Tab}{g:ft}{X:Cx}{sc:Scope}{N:List Str}{pos p2:Pos}
def FRels.look_none{K:aw}{m:Nat}{ds:List (Str×D)}{vs:List (Str×V)}(h:FRels K H G m ds vs)(e:ds.lookup f=none):vs.lookup f=none:=by
 induction h with
 |nil=>rfl
 | @cons k d' v ds vs h t ih=>
  rw[lookup_cons] at e ⊢;cases q:f==k with
  |true=>simp_all
  |false=>rw[q] at e;exact ih e
def sY(h:c∈T.ics f):∃I∈T.icl,I.x=c/\f∈I.flds:=by obtain⟨p,J,rfl⟩:=mem_map.mp h;obtain⟨h1,Y⟩:=mem_filter.mp J;exact⟨p,h1,rfl,List.contains_iff_mem.mp Y⟩
def zj{j:Nat}(h:(T.ims m).lookup c=some j):∃I∈T.icl,I.x=c/\(m,j)∈I.mts:=by
 obtain⟨I,h1,J⟩:=mem_filterMap.mp<|aL h;cases q:I.mts.lookup m with
 |none=>simp_all
 |some i=>rw[q] at J;cases J;exact⟨I,h1,rfl,aL q⟩
def Eu(C:Ctx T g X sc N)(hb:attributeBase o f X.env (eval o X.env)=eval o X.env)(ho:PE X o (tE X.K<|run g o')):PE X (.Attribute o f pos) (tE X.K<|run g<|.fld o' f []<|T.ics f):=by
 refine(BF ho hb).imp λW H Q hp=>?_;obtain⟨G,st,loc,S,L,P⟩:=hp;obtain⟨x,st1,e1,P⟩:=aP P;unfold Ck at P;split at P
 .rename_i n;split at P
  .rename_i c fs q;split at P
   .rename_i d hl;split at P
    .rename_i hc;obtain⟨ic,hi,rfl,hf⟩:=sY hc;obtain⟨C0,Y,cl,na,_⟩:=C.icl ic hi;refine bp S L e1 λH1 G1 v E1 I J=>?_;cases J with
     |ref hn=>obtain⟨C1,dx,vs,n1,h1,h2,_⟩:=I.ob n _ q;rw[Y] at n1;cases n1;obtain⟨w,Z,h⟩:=h2.look hl;exact⟨_,C0,dx,vs,w,rfl,h1,cl,na f hf,Z,(P.mono E1).same I h⟩
    .exact P.elim
   .exact P.elim
  .exact P.elim
 .exact P.elim
def Sim.aside{K:aw}(S:Sim K H G st){p:Addr}(I:H p=none)(ho:HO):Ext H (upd H p ho) G G st.length st.length/\Sim K (upd H p ho) G st:=by
 have E:Ext H (upd H p ho) G G st.length st.length:=⟨⟨af _,λ_ _=>rfl,λb xs e=>by rw[aq<|aE e I];exact e,λb J u e=>by rw[aq<|aE e I];exact e⟩,λb J e k=>⟨by rw[aq<|aE e I];exact e,k⟩⟩
 exact⟨E,S.inj,λn o e=>(S.ob n o e).move E.toExt0<|aq (by obtain⟨_,h,_⟩:=S.obj (au e).1;exact aE h I)⟩
def En{j:Nat}{as:List Expr}(C:Ctx T g X sc N)(hg:bE sc x=true)(hi:T.mks.lookup x=some j)(ha:PA X (a::as) (tA X.K<|runs g xs))
  (he:starEach (a::as) X.env=(false,eval a X.env)::starEach as X.env)(Z:(backTo pos<|starEach as X.env).any (·.1)=false):PE X (.Call (.Name x p2) (a::as) [] pos) (tE X.K<|run g<|.new x j xs):=by
 obtain⟨hd,C0,ad,fd,ps,k,hn,hm,mk,hb,hr,har,F⟩:=C.mks x j (aL hi);refine(y3 mk F hr (fg C hg) hm hb .nil Ao ha hd he Z).imp λW H Q hp=>?_;obtain⟨G,st,loc,S,L,P⟩:=hp;obtain⟨ds,st1,e1,P⟩:=aP P;refine k7 S L e1 λH1 G1 vs E1 S1 r1 h dx hx hdx hne=>?_;rw[append_nil];unfold wO at P;obtain⟨r,J,e2,P⟩:=aP P;obtain⟨E2,S2⟩:=S1.aside hdx<|.own h;have Y:upd H1 dx (.own h) h=none:=by rw[aq hne.symm];exact hx
 obtain⟨G2,E3,e3,S3⟩:=S2.laid (o:= .ins x []) (ho:= .ins C0 dx []) Y<|λG' h1 h2=>⟨C0,dx,[],hn,aT,.nil,by decide⟩
 have l:(st1++[O.ins x []]).length=st1.length+1:=by simp
 have rr:VRels X.K (upd (upd H1 dx<|.own h) h<|.ins C0 dx []) G2 (st1++[O.ins x []]).length (.ref st1.length::ds) (.ref h::vs):=by rw[l];refine .cons ?_<|r1.ext<|E2.trans E3;rw[<-e3];exact .ref<|aK _
 have I:(V.ref h::vs).length=ps.length:=by
  rw[<-rr.length];by_cases hps:(D.ref st1.length::ds).length=ps.length
  .exact hps
  .rw[har _ _ hps] at e2;cases e2
 refine⟨I,G2,_,_,S3,rr,?_⟩;rw[e2];cases r with
 |x n=>exact P.elim
 |v d=>
  cases d with
  |non=>
   intro H' G' v E' S' rv;cases rv;have E4:Ext H H' G G' st.length J.length:=((E1.trans E2).trans (by rw[<-l] at E3;exact E3)).trans E'
   refine⟨rfl,P H' G' _ E4 S' ?_⟩;have e4:G' st1.length=h:=(E'.ad _ (by rw[l];exact aK _)).trans e3
   rw[<-e4];have:=E'.le;rw[l] at this;exact .ref this
  |_=>exact P.elim
def sW{t:TA}{x:D}{W:L2.St}{H1:Hp}{Q:VK}(C:Ctx T g X sc N)(S1:Sim X.K H1 G1 st1)(L:LRel X.K H G st.length loc W)(E1:Ext H H1 G G1 st.length st1.length)(r1:VRel X.K H1 G1 st1.length x v)
  (P:b_ X.K H G st (bg (sX m (T.ims m) x) (λj=>bg (runs g xs loc) λds=>bg (g j<|x::ds) λr=>eW r.val?) st1) Q)
  (ht:∀Q':List V->Hp->Prop,tA X.K (runs g xs) W H1 Q'->t W H1 Q'):
  ∃a C dx fs f k fd ps sp,v=.ref a/\H1 a=some (.ins C dx fs)/\fs.lookup m=none/\Cls X.K C/\Meth X.K C m f/\FnOk X.prog X.w X.K X.mg X.base (oY X.prog X.w) k f fd ps sp/\Room k X.A/\Binds X.K fd ps []/\t W H1 λvs Y=>∀E:XK,sp (.ref a::vs) Y Q E:=by
 obtain⟨j,st2,h,P2⟩:=aP P;obtain⟨ds,I,e3,P3⟩:=aP P2;unfold sX at h;cases x with
 |ref nn=>
  dsimp only at h;split at h
  .rename_i c fs q;split at h
   .rename_i i hl hj;cases h;obtain⟨ic,hi,rfl,hm⟩:=zj hj;obtain⟨C0,n0,cl,na,ms⟩:=C.icl ic hi;obtain⟨a,fd,ps,k,M,hb,hr,J,F⟩:=ms m _ hm;have rr:=r1;cases r1 with
    |ref hn=>
     obtain⟨C1,dx,vs,n1,h1,h2,_⟩:=S1.ob nn _ q;rw[n0] at n1;cases n1;refine⟨_,C0,dx,vs,a,k,fd,ps,_,rfl,h1,h2.look_none hl,cl,M,F,hr,hb,ht _<|k7 S1 (L.ext E1) e3 λY G2 ws E2 S2 r2 E=>?_⟩;have Z:VRels X.K Y G2 I.length (.ref nn::ds) (.ref (G1 nn)::ws):= .cons (rr.ext E2) r2;refine⟨?_,G2,I,_,S2,Z,(io.val P3).mono<|E1.trans E2⟩;rw[<-Z.length];by_cases hps:(D.ref nn::ds).length=ps.length
     .exact hps
     .have P4:=io.val (E:=E) P3;rw[J _ _ hps] at P4;exact P4.elim
   .cases h
  .cases h
 |_=>cases h
def Cn{as:List Expr}(h:(backTo pos<|starEach as X.env).any (·.1)=false)(Y:as.length<29):methodCallForm (as.length+([]:List Keyword).length) (backTo pos<|starEach as X.env) (backToKw pos<|keywordEach [] X.env)=true:=by
 unfold methodCallForm
 have h1:(backTo pos<|starEach as X.env).all (!·.1)=true:=by
  simp_all
 rw[h1];have J:(backToKw pos<|keywordEach [] X.env).all (·.1.isSome)=true:=rfl;have I:(backToKw pos<|keywordEach [] X.env).isEmpty=true:=rfl;rw[J,I];simp only[Bool.true_and,length_nil,Nat.add_zero,if_true,decide_eq_true_eq]
 lia
def Cu{as:List Expr}(C:Ctx T g X sc N)(hl:(ap.endLine==pos.line)=true)(Z:(a::as).length<29)(hb:attributeBase o m X.env (eval o X.env)=eval o X.env)(ho:PE X o (tE X.K<|run g o'))(ha:PA X (a::as) (tA X.K<|runs g xs))
  (he:starEach (a::as) X.env=(false,eval a X.env)::starEach as X.env)(J:(backTo pos<|starEach as X.env).any (·.1)=false)(I:(backTo pos<|starEach (a::as) X.env).any (·.1)=false):PE X (.Call (.Attribute o m ap) (a::as) [] pos) (tE X.K<|run g<|.meth o' m (T.ims m) xs):=by
 refine(wC ho hb hl (Cn I Z) ha he J).imp λW H Q hp=>?_;obtain⟨G,st,loc,S,L,P⟩:=hp;obtain⟨x,st1,e1,P⟩:=aP P;exact bp S L e1 λH1 G1 v E1 S1 Y=>sW C S1 L E1 Y P λ_ h=>h
def zP(C:Ctx T g X sc N)(Z:(ap.endLine==pos.line)=true)(hb:attributeBase o m X.env (eval o X.env)=eval o X.env)(ho:PE X o (tE X.K<|run g o')):PE X (.Call (.Attribute o m ap) [] [] pos) (tE X.K<|run g<|.meth o' m (T.ims m) []):=by refine(uj ho hb Z).imp λW H Q Y=>?_;obtain⟨G,st,loc,S,L,P⟩:=Y;obtain⟨x,st1,e1,P⟩:=aP P;refine bp S L e1 λH1 G1 v E1 S1 J=>sW C S1 L E1 J P λQ' h=>?_;obtain⟨G2,I,loc2,S2,L2',P2⟩:=h;exact P2 H1 G2 [] (Ext.refl _ _ _) S2 .nil
def Er(C:Ctx T g X sc N)(hg:bE sc "isinstance"=true)(hgt:bE sc t=true)(ht:(T.sub t).isEmpty=false)(ha:PE X a (tE X.K<|run g a'))
  (he:starEach [a,.Name t p3] X.env=(false,eval a X.env)::starEach [.Name t p3] X.env):PE X (.Call (.Name "isinstance" p2) [a,.Name t p3] [] pos) (tE X.K<|run g<|.isk a'<|T.sub t):=by
 have J:∀c,c∈T.sub t->(t,c)∈T.isks:=λc hc=>by
  obtain⟨p,Y,rfl⟩:=mem_map.mp hc;obtain⟨h1,h2⟩:=mem_filter.mp Y;have:p.1=t:=by simpa using h2
  subst this;exact h1
 have Z:T.sub t≠[]:=λz=>by rw[z] at ht;cases ht
 obtain⟨c0,hc0⟩:=List.exists_mem_of_ne_nil _ Z;obtain⟨hdb,B,_,n0,m1,_⟩:=C.isks _ (J c0 hc0);refine(e_ xO (fg C hg) (C.blt _ (by decide+kernel)) (by decide+kernel) (cf ha (cf (sO (v:= .ref B) (fg C hgt) m1 rfl hdb) dk) he) (by decide+kernel) (by decide+kernel) he rfl).imp λW H Q Y=>?_
 obtain⟨G,st,loc,S,L,P⟩:=Y;obtain⟨x,st1,e1,h⟩:=aP P;refine bp S L e1 λH1 G1 v E1 S1 r1=>?_;unfold B8 at h;split at h
 .rename_i n;split at h
  .rename_i c fs q;split at h
   .rename_i hc;obtain⟨_,B',C1,I,_,n1,cl,f1,f2,f3,f4,kk⟩:=C.isks _<|J c hc;rw[n0] at I;cases I;cases r1 with
    |ref hn=>obtain⟨C2,dx,vs,n2,h1,h2,_⟩:=S1.ob n _ q;rw[n1] at n2;cases n2;exact⟨_,C1,dx,vs,.ref B,.ref B,_,rfl,h1,cl,f1,f2,f3,f4,λu ru=>ru,kk,(h.mono E1).same S1<|.bl _⟩
   .exact h.elim
  .exact h.elim
 .exact h.elim
noncomputable def Ty.name:Ty->String
 | .list=> "list"
 | .tuple=> "tuple"
 | .bool=> "bool"
def xP(t:Ty):dg X (.builtin "isinstance") (λvs H Q=>∃v,vs=[v,.ty t.name]/\Q (.bl true) H/\match t with| .list=>∃a xs,v=.ref a/\dG X.K H a xs| .tuple=>∃a xs,v=.ref a/\dY X.K H a xs| .bool=>∃b,v=.bl b):=by
 intro pins s W H vs us Q I r h;obtain⟨v,rfl,q,h⟩:=h;obtain⟨u1,u2,rfl,Y,r2⟩:=vals2 r;subst r2;have J:EP X pins W Q _ s:=⟨.bl true,H,I,rfl,q⟩;cases t with
 |list=>obtain⟨a,xs,rfl,h⟩:=h;cases Y;obtain⟨_,_,p,_⟩:=I.list h;obtain⟨o,h1,Z,_⟩:=p.isList;exact IsiPair.list_list h1 Z J
 |tuple=>obtain⟨a,xs,rfl,h⟩:=h;cases Y;obtain⟨_,_,⟨o,h1,Z,_⟩,_⟩:=I.tuple h;exact IsiPair.tuple_tuple h1 Z J
 |bool=>obtain⟨b,rfl⟩:=h;subst Y;exact IsiPair.bool_bool J
def yo{ty:Ty}(h:yp.lookup t=some ty):bootBuiltins t=some (.type ty.name)/\t≠ "__name__" /\(t==("__debug__":Str))=false/\t∈u8:=by
 have I:=aL h;simp only[yp,mem_cons,mem_nil_iff,Prod.mk.injEq,or_false] at I;rcases I with⟨rfl,rfl⟩|⟨rfl,rfl⟩|⟨rfl,rfl⟩<;>exact⟨by decide+kernel,by decide+kernel,by decide+kernel,by decide+kernel⟩
def Es{ty:Ty}(C:Ctx T g X sc N)(hg:bE sc "isinstance"=true)(Y:bE sc t=true)(ht:yp.lookup t=some ty)(ha:PE X a (tE X.K<|run g a'))
  (he:starEach [a,.Name t p3] X.env=(false,eval a X.env)::starEach [.Name t p3] X.env):PE X (.Call (.Name "isinstance" p2) [a,.Name t p3] [] pos) (tE X.K<|run g<|.isi a' ty):=by
 obtain⟨b1,b2,b3,b4⟩:=yo ht;refine(e_ (xP ty) (fg C hg) (C.blt _ (by decide+kernel)) (by decide+kernel) (cf ha (cf (y8 (v:= .ty ty.name) (fg C Y) (C.blt t b4) b1 rfl b2 b3) dk) he) (by decide+kernel) (by decide+kernel) he rfl).imp λW H Q hp=>?_
 obtain⟨G,st,loc,S,L,P⟩:=hp;obtain⟨x,st1,e1,P⟩:=aP P;refine bp S L e1 λH1 G1 v Z I J=>?_;unfold w_ at P;cases ty with
 |list=>
  cases x with
  |ref n=>
   simp only at P;split at P
   .rename_i xs q;cases J with
    |ref hn=>obtain⟨vs,g1,_⟩:=I.ob n _ q;exact⟨_,rfl,(P.mono Z).same I<|.bl _,_,vs,rfl,dG.of g1⟩
   .exact P.elim
  |_=>exact P.elim
 |tuple=>
  cases x with
  |tup xs=>
   cases J with
   |tup h _=>exact⟨_,rfl,(P.mono Z).same I<|.bl _,_,_,rfl,h⟩
  |_=>exact P.elim
 |bool=>
  cases x with
  |bl b=>cases J;exact⟨_,rfl,(P.mono Z).same I<|.bl _,b,rfl⟩
  |_=>exact P.elim
end
end Ev
namespace L2
def vR{W:St}{H:Hp}{d:Addr}{es:Array DictEntry}{ep:Nat}(I:Inv X pins W H s)(e:H d=some (.frz o<|.dK kvs))(ho:o.data=.dict es ep):
  ∃vs,KV kvs vs/\s.heap.DictAt (bD X.prog X.w) d vs ep/\vs.length=es.size/\s.heap.get? d=some o:=by
 obtain⟨e1,z,y,vs,r,dd⟩:=(show bL X.prog X.w H s.heap d _ from I.hok d _ e);obtain⟨Z,da⟩:=dd.dictAt;have h:=da;obtain⟨od,Y,q1,q2,q3,q4,J,q6⟩:=h;rw[e1] at q1;cases q1;rw[ho] at q3;cases q3;exact⟨vs,r,da,by have:=J.length;simp_all,e1⟩
theorem KV.get2{κ:Type}:∀{kvs:List (κ×V)}{vs:List (κ×Value)},KV kvs vs->∀{j:Nat}{p:κ×V},kvs[j]? =some p->∃u,vs[j]? =some (p.1,u)/\RelV p.2 u
 |_,_,.nil,_,_,h=>by simp at h
 |_,_,.cons r t,0,p,h=>by
  simp at h;subst h;exact⟨_,by simp_all,r.2⟩
 |_,_,.cons r t,j+1,p,h=>KV.get2 t (by simpa using h)
noncomputable def Gf(o:Obj)(d:Addr)(kvs:List (Key×V)):It:=
 ⟨λi H=>H d=some (.frz o<|.dK kvs)/\∃p,kvs[i]? =some p,
  λi H v H'=>H'=H/\∃p,kvs[i]? =some p/\v=p.2,
  λi H=>H d=some (.frz o<|.dK kvs)/\kvs.length<=i⟩
def GL(o:Obj)(it d:Addr)(i:Nat)(h:Heap):Prop:=∃es ep,o.data=.dict es ep/\h.IsValIter it d i es.size ep
def qB{K:aw}(o:Obj)(d it:Addr)(kvs:List (Key×V)):Turn P w K tg (Gf o d kvs) [it] it (GL o it d) where
 mem:=by simp
 obj:=λi h hp b hb=>by
  obtain⟨es,ep,_,ob,ho,_,hd⟩:=hp;have:b=it:=by simpa using hb
  subst this;exact⟨ob,ho,λv z=>by rw[hd] at z;cases z⟩
 keep:=λi h h' ⟨es,ep,hd,ob,ho,r⟩ kk=>⟨es,ep,hd,ob,kk it (by simp) _ ho,r⟩
 item:=by
  intro X hP hw hK hc i pins s W H E I hf st hg;subst hP hw hK;obtain⟨es,ep,hd,Y⟩:=st;obtain⟨e,p,hp⟩:=hg;obtain⟨vs,r,da,J,ho⟩:=vR I e hd;obtain⟨u,hu,ru⟩:=r.get2 hp;obtain⟨f0,f1,f2,f3,f4,f5⟩:=hf it (by simp)
  rw[<-J] at Y;refine wpAny_pyNext_values_item Y da hu λh' Z hs'=>?_
  replace hs':Heap.SameBut it s.heap h':=hs'
  obtain⟨ob,ho,hcl,hda⟩:=id Z;refine⟨_,rfl,p9 (s:={s with heap:=h'}) (n:= "dict_valueiterator") ho hcl hda (by decide) ⟨p.2,H,I.turned (t':=s.toks) (λc q hc e=>hs'.extBut c q hc e) f0 f1 f3 f4 f5,ru,⟨rfl,p,hp,rfl⟩,⟨es,ep,hd,by rw[<-J];exact Z⟩,λc hc=>(hf c hc).1⟩⟩
 done:=by
  intro X hP hw hK hc i pins s W H E I hf st hg;subst hP hw hK;obtain⟨es,ep,hd,Y⟩:=st;obtain⟨e,hl⟩:=hg;obtain⟨vs,r,da,J,ho⟩:=vR I e hd;have lv:=r.length;obtain⟨f0,f1,f2,f3,f4,f5⟩:=hf it (by simp)
  rw[<-J] at Y;exact wpAny_pyNext_values_end (I.ok.hd hc) Y da (List.getElem?_eq_none (by lia)) λh' eb=>⟨rfl,I.turned (t':=s.toks) (λb o hb e=>eb b o hb e) f0 f1 f3 f4 f5⟩
 self:=λ_ _ _ _ _ ⟨es,ep,_,st⟩ h=>wpAny_pyIter_valiter st h
def Ec(X:Cx)(td:TE):TI:=λW H R=>td W H λx H1=>∃a kvs,x=.ref a/\H1 a=some (.dK kvs)/\∀o,(∀o' w,X.H₀ a≠some (.frz o' w))->R (Gf o a kvs) (upd H1 a<|.frz o<|.dK kvs)
def yY{ap cp:Pos}{td:TE}(ho:PE X o td)(hb:attributeBase o "values" X.env (eval o X.env)=eval o X.env)(hl:(ap.endLine==cp.line)=true):
  PI X tg (.Call (.Attribute o "values" ap) [] [] cp) (Ec X td):=by
 intro pins s W H R I h;refine wpAny_Call_method0_late hb hl<|bR (ho pins s W H _ I h) λv J hp=>?_;obtain⟨x,H1,I1,r1,a,kvs,ex,hd,q1⟩:=hp;subst ex;obtain rfl:v=Value.ref a:=r1;obtain⟨ob,es,ep,vs0,g1,g2,g3,g4,g5,g6,lo⟩:=oO<|I1.hok a _ hd;obtain⟨z,hs,vs,rel,dd⟩:=lV I1.hok hd;obtain⟨t1,t2,_⟩:=iw I1<|.inl ⟨kvs,.inl hd⟩;have nf:=I1.nofrzD hd;refine⟨"dict","dict.values",PySem.F.plainAttrs_dict,PySem.F.slot_dict_values,PySem.F.type_dict_values,t1,t2,Calls.callWith_builtin rfl<|PySem.evalArgs_none ?_⟩;refine call_meetsIn PySem.F.slot_dict_values t1 PySem.F.entry_dict_values (PySem.F.args_dict_values_1 _) (meets_dict_values (bD X.prog X.w) a hs) ⟨⟨vs,dd⟩,?_⟩;obtain⟨ep',Z⟩:=(dd.push {cls:= .type "dict_values",data:= .fields #[.ref a]}).dictAt;have Y:=Z;obtain⟨od,es',d1,d2,d3,d4,d5,d6⟩:=Y;rw[ac _ g1] at d1;cases d1;rw[g3] at d3;cases d3;have lv:vs.length=es.size:=by have:=d5.length;simp at this;lia
 refine wpAny_pyIter_values ⟨_,aj _ rfl,rfl,rfl⟩ Z ?_;have I2:=((I1.freezeD hd g1).kept (t':=J.toks) (h':=J.heap.push {cls:= .type "dict_values",data:= .fields #[.ref a]}) λb q z=>ac _ z);have I3:=I2.kept (t':=J.toks) (h':=(J.heap.push {cls:= .type "dict_values",data:= .fields #[.ref a]}).push {cls:= .type "dict_valueiterator",data:= .fields #[.ref a,.int 0 0,.int vs.length 0,.int ep 0]}) λb q z=>ac _ z;refine⟨_,[(J.heap.push {cls:= .type "dict_values",data:= .fields #[.ref a]}).objs.size],_,_,_,rfl,I3,qB ob a _ kvs,⟨es,ep,g3,?_⟩,λb hb=>?_,q1 ob nf⟩
 .rw[<-lv];exact⟨_,aj _ rfl,rfl,rfl⟩
 .have eb:b=(J.heap.push {cls:= .type "dict_values",data:= .fields #[.ref a]}).objs.size:=by simpa using hb
  subst eb;exact I2.fpOk (af _)<|I2.hok.fresh<|af _
end L2
namespace Ev
open L2
variable{n:Nat}{st:aV}{a:Addr}{vs:List (Key×V)}{kvs:List (Key×D)}
def Sim.put{K:aw}{H:Hp}{G:Nat->Addr}(S:Sim K H G st){o o':O}{ho:HO}(e:st[n]? =some o)(new:jN K (upd H (G n) ho) G st.length (G n) o')(I:∀kvs,o≠ .dcf kvs:=by intro _ z;cases z):
  Ext H (upd H (G n) ho) G G st.length st.length/\Sim K (upd H (G n) ho) G (st.set n o'):=by
 obtain⟨u,h1,Z,nf⟩:=(S.ob n o e).there2 I;have Y:=(au e).1
 have E:Ext H (upd H (G n) ho) G G st.length st.length:=by
  refine⟨⟨af _,λ_ _=>rfl,λb zs q=>?_,λb h w q=>?_⟩,λb h q k=>⟨by rw[aq (k n Y).symm];exact q,k⟩⟩
  .rw[aq<|cg q h1<|λz=>Z _ z.symm];exact q
  .rw[aq<|cg q h1<|λz=>nf _ _ z.symm];exact q
 refine⟨E,λi j hi hj=>S.inj i j (by simpa using hi) (by simpa using hj),λk h q=>?_⟩
 rw[aG];by_cases hk:k=n
 .simp_all
 .rw[aS<|Ne.symm hk] at q;have J:k<st.length:=(au q).1;exact(S.ob k h q).move E.toExt0<|aq λz=>hk<|S.inj k n J Y z
structure Thw(H H':Hp):Prop where
 tp:∀b xs,H b=some (.tup xs)->H' b=some (.tup xs)
 fz:∀b o u,(∀kvs,u≠ .dK kvs)->H b=some (.frz o u)->H' b=some (.frz o u)
section
variable{K:aw}{H H':Hp}{G:Nat->Addr}{m:Nat}
def dY.thw(e:Thw H H')(h:dY K H a xs):dY K H' a xs:=by
 rcases h with(h|⟨o,h⟩)|h
 .exact .inl<|.inl<|e.tp _ _ h
 .exact .inl<|.inr ⟨o,e.fz _ _ _ (λ_ z=>by cases z) h⟩
 .exact .inr h
def tZ.thw(e:Thw H H')(h:tZ K H a xs):tZ K H' a xs:=by
 rcases h with⟨o,h⟩|h
 .exact .inl ⟨o,e.fz _ _ _ (λ_ z=>by cases z) h⟩
 .exact .inr h
mutual
theorem VRel.thw{K:aw}{H H':Hp}{G:Nat->Addr}{m:Nat}(e:Thw H H'):∀{d:D}{v:V},VRel K H G m d v->VRel K H' G m d v
 |_,_,.non=>.non
 |_,_,.bl b=>.bl b
 |_,_,.int i=>.int i
 |_,_,.str x=>.str x
 |_,_,.tup h r=>.tup (dY.thw e h)<|VRels.thw e r
 |_,_,.fl h r=>.fl (tZ.thw e h)<|VRels.thw e r
 |_,_,.ref h=>.ref h
theorem VRels.thw{K:aw}{H H':Hp}{G:Nat->Addr}{m:Nat}(e:Thw H H'):∀{ds:List D}{vs:List V},VRels K H G m ds vs->VRels K H' G m ds vs
 |_,_,.nil=>.nil
 |_,_,.cons h t=>.cons (VRel.thw e h)<|VRels.thw e t
end
theorem DRels.thw(e:Thw H H'){ds:List (Key×D)}(h:DRels K H G m ds vs):DRels K H' G m ds vs:=by
 induction h with
 |nil=>exact .nil
 |cons h t ih=>exact .cons (VRel.thw e h) ih
theorem FRels.thw(e:Thw H H'){ds:List (Str×D)}{vs:List (Str×V)}(h:FRels K H G m ds vs):FRels K H' G m ds vs:=by
 induction h with
 |nil=>exact .nil
 |cons h t ih=>exact .cons (VRel.thw e h) ih
theorem jN.thw{o:O}(h:jN K H G m a o)(E:Thw H H')(J:H' a=H a):jN K H' G m a o:=by
 cases o with
 |lst ds=>obtain⟨xs,h1,I⟩:=h;exact⟨xs,J.trans h1,VRels.thw E I⟩
 |dct ds=>obtain⟨xs,h1,I⟩:=h;exact⟨xs,J.trans h1,I.thw E⟩
 |ins x fs=>obtain⟨C,dx,xs,h0,h1,I,Z⟩:=h;exact⟨C,dx,xs,h0,J.trans h1,I.thw E,Z⟩
 |dcf ds=>obtain⟨Y,xs,h1,I⟩:=h;exact⟨Y,xs,J.trans h1,I.thw E⟩
def Sim.freeze(S:Sim K H G st)(e:st[n]? =some (.dct kvs)):∃vs,H (G n)=some (.dK vs)/\DRels K H G st.length kvs vs/\∀h,Ext H (upd H (G n)<|.frz h<|.dK vs) G G st.length st.length/\Sim K (upd H (G n)<|.frz h<|.dK vs) G (st.set n<|.dcf kvs):=by
 obtain⟨vs,h1,I⟩:=S.ob n _ e;refine⟨vs,h1,I,λh=>?_⟩
 have E:Ext0 H (upd H (G n)<|.frz h<|.dK vs) G G st.length st.length:=by
  refine⟨af _,λ_ _=>rfl,λb zs q=>?_,λb o u q=>?_⟩
  .rw[aq<|cg q h1 (by simp)];exact q
  .rw[aq<|cg q h1 (by simp)];exact q
 exact S.put e ⟨h,vs,aT,I.ext0 E⟩
def Sim.thaw(S:Sim K H G st)(e:st[n]? =some (.dcf kvs)):∃h vs,H (G n)=some (.frz h<|.dK vs)/\Sim K (upd H (G n)<|.dK vs) G (st.set n<|.dct kvs):=by
 obtain⟨h,vs,h1,Z⟩:=S.ob n _ e;have J:n<st.length:=(au e).1
 have E:Thw H (upd H (G n)<|.dK vs):=by
  refine⟨λb zs q=>?_,λb o u hu q=>?_⟩
  .rw[aq<|cg q h1 (by intro z;cases z)];exact q
  .rw[aq<|cg q h1 (by simp_all)];exact q
 refine⟨h,vs,h1,λi j hi Y=>S.inj i j (by simpa using hi) (by simpa using Y),λk o q=>?_⟩
 rw[aG];by_cases hk:k=n
 .subst hk;rw[aY J] at q;cases q;exact⟨vs,aT,Z.thw E⟩
 .rw[aS<|Ne.symm hk] at q;have I:k<st.length:=(au q).1;exact(S.ob k o q).thw E<|aq λz=>hk<|S.inj k n I J z
def Ext.thaw{Hm:Hp}{G':Nat->Addr}{m':Nat}(E:Ext (upd H (G n)<|.frz J<|.dK vs) Hm G G' m m')(Y:n<m)(I:H (G n)=some (.dK vs)):Ext H (upd Hm (G n)<|.dK vs) G G' m m':=by
 refine⟨⟨E.le,E.ad,λb zs q=>?_,λb o u q=>?_⟩,λb o q k=>?_⟩
 .have h:=cg q I (by simp)
  rw[aq h];exact E.tp b zs (by rw[aq h];exact q)
 .have h:=cg q I (by intro z;cases z)
  rw[aq h];exact E.fz b o u (by rw[aq h];exact q)
 .have h:b≠G n:=(k n Y).symm;obtain⟨q1,q2⟩:=E.fr b o (by rw[aq h];exact q) k
  exact⟨by rw[aq h];exact q1,q2⟩
def Thw.of(h1:H a=some (.frz h<|.dK vs)):Thw H (upd H a<|.dK vs):=by
 refine⟨λb zs q=>?_,λb o u I q=>?_⟩
 .rw[aq<|cg q h1 (by simp)];exact q
 .rw[aq<|cg q h1 (by simp_all)];exact q
def DRels.at_{ds:List (Key×D)}(h:DRels K H G m ds vs):∀{i:Nat}{p:Key×D},ds[i]? =some p->∃v,vs[i]? =some (p.1,v)/\VRel K H G m p.2 v:=by
 induction h with
 |nil=>intro i p e;simp at e
 |cons h t ih=>
  intro i p e;cases i with
  |zero=>simp at e;subst e;exact⟨_,rfl,h⟩
  |succ i=>exact ih (by simpa using e)
end
def zJ{h:aV}(e:rM d st=.ok n h):∃kvs,d=.ref n/\st[n]? =some (.dct kvs)/\h=st.set n (.dcf kvs):=by
 cases d with
 |ref k=>
  unfold rM at e;dsimp only at e;cases q:st[k]? with
  |none=>simp_all
  |some o=>
   rw[q] at e;cases o with
   |dct kvs=>cases e;exact⟨kvs,rfl,q,rfl⟩
   |_=>cases e
 |_=>cases e
theorem cF.dv{K:aw}{J:Hp}{G0:Nat->Addr}{m0:Nat}(hn:n<m0)(h0:J (G0 n)=some (.frz o<|.dK vs)):cF K (Gf o (G0 n) vs) (.dv n) J G0 m0:=λH G st i E S=>by
 simp only[iT];cases q:st[n]? with
 |none=>exact⟨λe=>(by cases e),λx e=>(by cases e)⟩
 |some ob=>
  have rel:=S.ob n ob q;rw[E.ad n hn] at rel;cases ob with
  |dcf kvs=>
   obtain⟨o',Z,h1,r⟩:=rel;have z:=E.fz _ _ _ h0;rw[h1] at z;cases z;have l:=r.length;refine⟨λe=>?_,λx e=>?_⟩
   .have e:kvs[i]? =none:=by simpa using e
    exact⟨h1,by have:=List.getElem?_eq_none_iff.mp e;lia⟩
   .have e:=ak e;cases e2:kvs[i]? with
    |none=>rw[e2] at e;cases e
    |some p=>rw[e2] at e;have e:p.2=x:=ak e;subst e;obtain⟨v,I,rv⟩:=r.at_ e2;refine⟨⟨h1,_,I⟩,λw H' Y=>?_⟩;obtain⟨rfl,p',h,rfl⟩:=Y;rw[I] at h;cases h;exact⟨rfl,rv⟩
  |_=>exact⟨λe=>(by cases e),λx e=>(by cases e)⟩
def qW{X:Cx}{H H1:Hp}{G G1:Nat->Addr}{st1:aV}{f:M D}{Q:VK}(E1:Ext H H1 G G1 st.length st1.length)(Y:n<st1.length)(g1:H1 (G1 n)=some (.dK vs))(nf:∀o w,X.H₀ (G1 n)≠some (.frz o w))
  (P:b_ X.K H G st (bg f (λx=>qG n x)<|st1.set n<|.dcf kvs) Q):b_ X.K (upd H1 (G1 n)<|.frz J<|.dK vs) G1 (st1.set n<|.dcf kvs) (f<|st1.set n<|.dcf kvs) (λv H=>Aa X (Q v) H):=by
 have ls:(st1.set n<|.dcf kvs).length=st1.length:=aG ..;obtain⟨x,I,e3,P⟩:=aP P;rw[e3];intro H3 G3 w h S3 Z;unfold qG at P;cases q3:I[n]? with
 |none=>rw[q3] at P;exact P.elim
 |some o3=>
  rw[q3] at P;cases o3 with
  |dcf kvs3=>
   rw[ls] at h;obtain⟨ob3,vs3,k1,k2⟩:=S3.thaw q3;have ad:=h.ad n Y;have z:=h.fz _ _ _ (aT:upd H1 (G1 n) _ (G1 n)=_);rw[ad] at k1 k2;rw[k1] at z;cases z;exact⟨G1 n,J,vs,k1,nf,P _ G3 w (by rw[aG];exact E1.trans<|h.thaw Y g1) k2 (by rw[aG];exact Z.thw<|Thw.of k1)⟩
  |_=>exact P.elim
end Ev
namespace PySem.W
open PySem.Calls
section
variable{prog:Program}{w:World}{A:Around}{I S:Addr}{fp wr:List Addr}{n:Nat}{P:Nat->Value->Prop}{St:Nat->Heap->Prop}{R:Result->Shared->Prop}{s:Shared}{kw:List (Str×Value)}{c:Nat}{v u:Value}
noncomputable abbrev mx(I S:Addr)(kw:List (Str×Value)):Code:= .builtin "max.loop" ⟨[.ref I,.none,.ref S],kw⟩
def wK(h:wpAny (model prog w) A.in1 (Builtin.«max.loop» ⟨[.ref I,.none,.ref S],kw⟩) (λJ s'=>match J with| .done f=>R (.ok f) s'| .again c'=>c'.quiet=true/\codeAny (model prog w) A c' R s') (λe s'=>R (.error e) s') s):codeAny (model prog w) A (mx I S kw) R s:=by refine codeAny_builtin F.entry_max_loop ?_;rw[Around.under_plainId F.plain_max_loop _];exact h
def BV(W:Walks prog w A.in1 I fp wr n P St)(J:S∉fp)(st:St n s.heap)(o:s.heap.get? S=some {cls:= .type "list",dict:=none,data:= .seq #[v,u] c,slots:= #[]})
  (h:∀h' tk,(∀b o,b∉wr->b≠S->s.heap.get? b=some o->h'.get? b=some o)->R (.ok<|.ret v) {s with heap:=h',toks:=tk}):codeAny (model prog w) A (mx I S kw) R s:=by
 refine wK<|aa<|wpAny_seqItems o rfl ?_;show wpAny _ _ (tryCatch (pyNext<|.ref I) _>>=_) _ _ s;refine aa<|wpAny_tryCatch<|W.done s _ _ st λh' tk k=>?_;show wpAny _ _ (updateSeq S (λ_=> #[])>>=_) _ _ _;exact aa<|wpAny_updateSeq (k S _ (λz=>J<|W.sub _ z) o) rfl<|aa<|wpAny_letGo<|ae<|h _ tk λb q n1 n2 e=>(Heap.get?_update_other _ _<|Ne.symm n2).trans<|k b q n1 e
def wL(W:Walks prog w A.in1 I fp wr n P St)(J:S∉fp)(Y:0<n)(st:St 0 s.heap)(o:s.heap.get? S=some {cls:= .type "list",dict:=none,data:= .seq #[] c,slots:= #[]})
  (h:∀v h' tk c,P 0 v->St 1 h'->(∀b o,b∉wr->b≠S->s.heap.get? b=some o->h'.get? b=some o)->h'.get? S=some {cls:= .type "list",dict:=none,data:= .seq #[v,v] c,slots:= #[]}->codeAny (model prog w) A (mx I S kw) R {s with heap:=h',toks:=tk}):codeAny (model prog w) A (mx I S kw) R s:=by
 refine wK<|aa<|wpAny_seqItems o rfl ?_;show wpAny _ _ (tryCatch (pyNext<|.ref I) _>>=_) _ _ s;refine aa<|wpAny_tryCatch<|W.item 0 s _ _ Y st λv h' tk hP st' k=>?_;have o':=k S _ (λz=>J<|W.sub _ z) o;show wpAny _ _ (updateSeq S (λ_=> #[v,v])>>=_) _ _ _;refine aa<|wpAny_updateSeq o' rfl ?_;rw[show(toString "max" ++toString ".loop":String)= "max.loop" by decide]
 refine ae ⟨plainId_quiet F.plain_max_loop _,h v _ tk _ hP (W.frame _ _ _ st' λb Z q e=>?_) (λb q n1 n2 e=>(Heap.get?_update_other _ _<|Ne.symm n2).trans<|k b q n1 e)<|Heap.get?_update_self _ o' rfl⟩;exact(Heap.get?_update_other _ _ (λz:S=b=>J (by rw[z];exact Z))).trans e
def zi{a b:Int}{ta:Tok}{j:Nat}(W:Walks prog w A.in1 I fp wr n P St)(Y:S∉fp)(Z:j<n)(J:∀x,P j x->∃t,x=.int b t)(st:St j s.heap)(o:s.heap.get? S=some {cls:= .type "list",dict:=none,data:= .seq #[.int a ta,.int a ta] c,slots:= #[]})
  (h:∀t h' tk c,St (j+1) h'->(∀b o,b∉wr->b≠S->s.heap.get? b=some o->h'.get? b=some o)->h'.get? S=some {cls:= .type "list",dict:=none,data:= .seq #[.int (if b>a then b else a) t,.int (if b>a then b else a) t] c,slots:= #[]}->codeAny (model prog w) A (mx I S kw) R {s with heap:=h',toks:=tk}):codeAny (model prog w) A (mx I S kw) R s:=by
 refine wK<|aa<|wpAny_seqItems o rfl ?_;show wpAny _ _ (tryCatch (pyNext<|.ref I) _>>=_) _ _ s;refine aa<|wpAny_tryCatch<|W.item j s _ _ Z st λv h' tk hP st' k=>?_;obtain⟨tb,rfl⟩:=J v hP;have o':=k S _ (λz=>Y<|W.sub _ z) o;show wpAny _ _ (tryCatch (holding [.int b tb,.int b tb]<|richCompare .Gt (.int b tb) (.int a ta)>>=_) _>>=_) _ _ _;refine aa<|wpAny_tryCatch<|wpAny_holding<|aa<|CmpOf.ints_gt (P:=λi v=>∃t,v=.int (if i=0 then a else b) t) (λi=>if i=0 then a else b) (λ_ _ z=>z) 1 0 _ _ _ _ _ ⟨tb,rfl⟩ ⟨ta,rfl⟩ ?_
 refine aa<|wpAny_holding<|wpAny_truthy_bool<|aa<|wpAny_letGo<|ae ?_;by_cases hc:b>a
 .have hd:decide ((if(1:Nat)=0 then a else b)>if(0:Nat)=0 then a else b)=true:=by simpa using hc
  rw[if_pos hd];show wpAny _ _ (updateSeq S (λ_=> #[.int b tb,.int b tb])>>=_) _ _ _;refine aa<|wpAny_updateSeq o' rfl ?_;refine aa<|wpAny_letGo ?_;rw[show(toString "max" ++toString ".loop":String)= "max.loop" by decide]
  refine ae ⟨plainId_quiet F.plain_max_loop _,h tb _ tk _ (W.frame _ _ _ st' λb J q e=>?_) (λb q n1 n2 e=>(Heap.get?_update_other _ _<|Ne.symm n2).trans<|k b q n1 e) (by rw[if_pos hc];exact Heap.get?_update_self _ o' rfl)⟩
  exact(Heap.get?_update_other _ _ (λz:S=b=>Y (by rw[z];exact J))).trans e
 .have hd:¬decide ((if(1:Nat)=0 then a else b)>if(0:Nat)=0 then a else b)=true:=by simpa using hc
  rw[if_neg hd];refine aa<|wpAny_letGo ?_;rw[show(toString "max" ++toString ".loop":String)= "max.loop" by decide]
  exact ae ⟨plainId_quiet F.plain_max_loop _,h ta _ tk _ st' (λb q n1 _ e=>k b q n1 e) (by rw[if_neg hc];exact o')⟩
end
section
variable{prog:Program}{w:World}{A:Around}{E:Value->Shared->Prop}{s:Shared}
def u_(a d:Value):argsOk "max" ⟨[a],[(Str.ofString "default",d)]⟩:=by unfold argsOk;kernel_rfl
theorem yr{id:String}{f:Builtin}{args:Args}{Q:Value->Shared->Prop}(hk:builtinKind id=none)(Z:plainId id=true)(hb:entryFor table id=some f)(J:argsOk id args)
  (h:wpAny (model prog w) A.in1 (f args) (λY s'=>match Y with
   | .done x=>(match(Except.ok x:Result) with| .ok (.ret v)=>Q v s'| .ok _=>False| .error e=>E e s')
   | .again c=>c.quiet=true/\codeAny (model prog w) A c (λr s'=>match r with| .ok (.ret v)=>Q v s'| .ok _=>False| .error e=>E e s') s') E s):wpAny (model prog w) A (call (.builtin id) args.pos args.kw) Q E s:=by
 refine wpAny_call<|codeAny_call_builtin Z hb ?_;unfold checkBuiltinCall;simp only[hk];unfold argsOk at J;split at J
 .rename_i sg I;simp only[I];exact wpAny_of_eq J h
 .rename_i I;simp only[I];exact ae h
def wQ{l:Addr}{a b:Int}{ta tb:Tok}{d:Value}{Q:Value->Shared->Prop}(hh:A.handled=none)(Y:s.heap.IsList l [.int a ta,.int b tb].toArray)
  (h:∀h' tk t,(∀b o,s.heap.get? b=some o->h'.get? b=some o)->Q (.int (if b>a then b else a) t) {s with heap:=h',toks:=tk}):wpAny (model prog w) A (call (.builtin "max") [.ref l] [(Str.ofString "default",d)]) Q E s:=by
 have lt:l<s.heap.objs.size:=by obtain⟨_,e,_⟩:=Y;exact ai e
 refine yr (args:=⟨[.ref l],[(Str.ofString "default",d)]⟩) F.kind_max F.plain_max F.entry_max (u_ _ _) ?_;show wpAny _ _ (Builtin.Builtins.bindParams "max" ["key","default"] 0 ⟨[],[(Str.ofString "default",d)]⟩>>=_) _ _ s;refine aa<|wpAny_of_eq (show Builtin.Builtins.bindParams "max" ["key","default"] 0 ⟨[],[(Str.ofString "default",d)]⟩=pure [none,some d] from rfl)<|aa<|ae<|aa<|wpAny_pyIter_list Y<|aa<|wpAny_newObj_type ?_;have W:=Walks.list (A:=A.in1) (prog:=prog) (w:=w) hh s.heap.objs.size l (al lt) [.int a ta,.int b tb].toArray;rw[show(toString "max" ++toString ".loop":String)= "max.loop" by decide]
 have sz:(s.heap.push {cls:= .type "list_iterator",data:= .fields #[.ref l,.int 0 0]}).objs.size=s.heap.objs.size+1:=Heap.size_push ..
 have Z:(s.heap.push {cls:= .type "list_iterator",data:= .fields #[.ref l,.int 0 0]}).objs.size∉[s.heap.objs.size,l]:=λz=>by
  rw[sz] at z;rcases mem_cons.mp z with z|z
  .exact Nat.succ_ne_self _ z
  .have z:=mem_singleton.mp z;rw[<-z] at lt;exact bj _<|lt_trans (aK _) lt
 refine ae ⟨plainId_quiet F.plain_max_loop _,wL W Z (by simp) ⟨⟨_,ac _<|aj _ rfl,rfl,rfl⟩,(Y.push _).push _⟩ (aj _ rfl) λv h1 t1 c1 p1 st1 k1 o1=>?_⟩
 obtain rfl:v=.int a ta:=by simpa using p1.symm
 refine zi (j:=1) (b:=b) W Z (by simp) (λx I=>⟨tb,by simpa using I.symm⟩) st1 o1 λt h2 t2 c2 J k2 o2=>BV W Z J o2 λh3 t3 k3=>h h3 t3 t λx o e=>?_
 have I:=ai e;have n1:x∉[s.heap.objs.size]:=λz=>al I (mem_singleton.mp z);have n2:x≠(s.heap.push {cls:= .type "list_iterator",data:= .fields #[.ref l,.int 0 0]}).objs.size:=λz=>by rw[sz] at z;rw[z] at I;exact bj _<|lt_trans (aK _) I
 exact k3 x o n1 n2<|k2 x o n1 n2<|k1 x o n1 n2<|ac _<|ac _ e
end
end PySem.W
namespace L2
section
variable{X:Cx}
def yZ{te:TE}{p pos kpos q:Pos}{k:Nat}(hc:X.calm=true)(hg:Gl X "max")(hm:X.mg "max"=none)(hv:bootBuiltins "max"=some (.builtin "max"))(ha:PE X e te)(J:starEach [e] X.env=(false,eval e X.env)::starEach [] X.env:=by rfl):
  PE X (.Call (.Name "max" p) [e] [⟨some "default",.Constant (.int 0) k q,kpos⟩] pos) (λW H Q=>te W H λy H1=>∃l a b,y=.ref l/\dG X.K H1 l [.int a,.int b]/\Q (.int (if b>a then b else a)) H1):=by
 intro pins s W H Q I h;refine wpAny_Call_Name_kw<|fF I hg hm hv<|callWith_kw ?_ (by rw[J];rfl) (by rw[J];rfl)
 rw[J];show wpAny _ _ (spliced<|(false,eval e X.env)::backTo pos (starEach [] X.env)) _ _ s;refine Calls.spliced_cons<|bR (ha pins s W H _ I h) λu Z ⟨y,H1,I1,r1,l,a,b,ey,hL,q1⟩=>Calls.spliced_nil ?_;subst ey;subst r1;refine wpAny_evalAll_cons<|aa<|wpAny_Constant_int<|aa<|wpAny_standAt<|ae<|wpAny_evalAll_nil ?_;have Y:=I1.tok (Z.toks+1);obtain⟨its,r,pl,_⟩:=Y.list hL;obtain⟨u1,u2,rfl,⟨ta,rfl⟩,⟨tb,rfl⟩⟩:=vals2 r;exact PySem.W.wQ (Y.ok.hd hc) pl.isList λh2 tk t kk=>⟨.int _,H1,Y.kept (t':=tk) kk,⟨t,rfl⟩,q1⟩
end
end L2
namespace Ev
open L2
variable{a' c' e' o':Ex}{a b c e elt it o:Expr}{st st0:aV}{i j m n tk:Nat}{G G0:Nat->Addr}{H:Hp}{W:L2.St}{sc scope:Scope}{ap cp p4 pos:Pos}{f x:Str}{g:ft}{X:Cx}{N:List Str}{args ts:List Expr}{b':List S}{is:List Nat}{loc:Loc}
section
variable{T:Tab}{g:ft}{X:Cx}{sc scope:Scope}{N:List Str}{pos px ap cp p2 p5:Pos}{x:Str}
def sN(C:Ctx T g X sc N)(h:T.calm=true)(hc:cm sc scope N x=true)(hl:(ap.endLine==cp.line)=true)(hb:attributeBase o "values" X.env (eval o X.env)=eval o X.env)(ho:PE X o (tE X.K<|run g o'))(he:∀fp s H,PE (bI X x scope fp s H) elt<|tE X.K<|run g e'):
  PE X (.ListComp elt [⟨.Name x px,.Call (.Attribute o "values" ap) [] [] cp,[],0⟩] scope pos) (tE X.K λloc=>bg (run g o' loc) λd=>bg (rM d) λn=>bg (bY (λx=>bg (run g e'<|some x::loc) λy=>ret<|some y)<|.dv n) λx=>qG n x):=by
 obtain⟨h1,h2,_,_⟩:=cy C hc;refine(oi (C.calm h) h1 h2 (by rw[C.n];exact C.nd) (yY ho hb hl) (λ_ _ _=>iQ) he<|λ_=>rfl).thawD.imp λW H Q hp=>?_
 obtain⟨G,st,loc,S,L,P⟩:=hp;obtain⟨d,st1,e1,P⟩:=aP P;obtain⟨n,Z,e2,P⟩:=aP P;obtain⟨kvs,rfl,q,rfl⟩:=zJ e2;refine bp S L e1 λH1 G1 v Y S1 r1=>?_;cases r1 with
 |ref hn=>
  obtain⟨vs,J,g2,g3⟩:=S1.freeze q;refine⟨G1 n,vs,rfl,J,λob nf=>?_⟩;obtain⟨E2,S2⟩:=g3 ob;have I:(st1.set n<|.dcf kvs).length=st1.length:=aG ..;exact fW (loc:=loc) (st0:=st1.set n<|.dcf kvs) jH (cF.dv (by rw[I];exact hn) aT) (Ext.refl _ _ _) S2 (by rw[I];exact(L.ext Y).ext E2)<|qW Y hn J nf P
def Ej(C:Ctx T g X sc N)(Z:bE sc "max"=true)(h:T.calm=true)(hc:cm sc scope N x=true)(Y:(ap.endLine==cp.line)=true)(hb:attributeBase o "values" X.env (eval o X.env)=eval o X.env)(ho:PE X o (tE X.K<|run g o'))(he:∀fp s H,PE (bI X x scope fp s H) elt<|tE X.K<|run g e'):
  PE X (.Call (.Name "max" p2) [.ListComp elt [⟨.Name x px,.Call (.Attribute o "values" ap) [] [] cp,[],0⟩] scope p5] [] pos) (tE X.K<|run g<|.vmx o' e'):=by
 refine(e_ (rT (C.calm h) .max) (fg C Z) (C.blt _ (by decide+kernel)) (by decide+kernel) (cf (sN C h hc Y hb ho he) dk) (by decide+kernel) (by decide+kernel)).imp λW H Q J=>?_
 obtain⟨G,st,loc,S,L,P⟩:=J;obtain⟨v,st1,e1,P⟩:=aP P;exact bp S L e1 λH1 G1 v E1 S1 I=>⟨G1,st1,[_],S1,.cons I .nil,P.mono E1⟩
def Ek{k:Nat}{kpos q:Pos}(C:Ctx T g X sc N)(hg:bE sc "max"=true)(h:T.calm=true)(hc:cm sc scope N x=true)(Z:(ap.endLine==cp.line)=true)(hb:attributeBase o "values" X.env (eval o X.env)=eval o X.env)(ho:PE X o (tE X.K<|run g o'))(he:∀fp s H,PE (bI X x scope fp s H) elt<|tE X.K<|run g e'):
  PE X (.Call (.Name "max" p2) [.ListComp elt [⟨.Name x px,.Call (.Attribute o "values" ap) [] [] cp,[],0⟩] scope p5] [⟨some "default",.Constant (.int 0) k q,kpos⟩] pos) (tE X.K<|run g<|.vmd o' e'):=by
 refine(yZ (C.calm h) (fg C hg) (C.blt _ (by decide+kernel)) (by decide+kernel)<|sN C h hc Z hb ho he).imp λW H Q Y=>?_
 obtain⟨G,st,loc,S,L,P⟩:=Y;obtain⟨v,st1,e1,P⟩:=aP P;refine bp S L e1 λH1 G1 v E1 I J=>?_;unfold wR at P;split at P
 .rename_i a b es;obtain⟨xs,h1,h2⟩:=bs es;obtain⟨n,vs,rfl,_,rfl,_,g1,g2⟩:=fe I h1 J;cases hZ h2 g2;exact⟨_,a,b,rfl,dG.of g1,(P.mono E1).same I<|.int _⟩
 .exact P.elim
end
def jJ{x:D}(h:c8 st x=some kvs):∃n,x=.ref n/\st[n]? =some (.dct kvs):=by
 cases x with
 |ref n=>
  unfold c8 at h;dsimp only at h;split at h
  .simp_all
  .cases h
 |_=>cases h
theorem EM{st:aV}{x:D}:∀{ys:List D}{k:Bool},cN st x ys=some k->k=((range ys.length).any λj=>ys[j]?.elim false λy=>dX 60 st y x==some true)/\∀(j:Nat) y,ys[j]? =some y->∃b,dX 60 st y x=some b
 |[],k,h=>by cases h;exact⟨rfl,λj y e=>by simp at e⟩
 |y::ys,k,h=>by
  unfold cN at h;split at h
  .rename_i a b h1 Y;cases h;obtain⟨J,I⟩:=EM Y;refine⟨?_,λj z e=>?_⟩
   .rw[length_cons,List.range_succ_eq_map,any_cons,any_map,J];congr 1;simp[h1]
   .cases j with
    |zero=>simp_all
    |succ j=>exact I j z (by simpa using e)
  .cases h
theorem VRels.of_get{K:aw}:∀{ds:List D}{vs:List V},ds.length=vs.length->(∀(j:Nat) d v,ds[j]? =some d->vs[j]? =some v->VRel K H G m d v)->VRels K H G m ds vs
 |[],[],_,_=>.nil
 |d::ds,v::vs,l,h=>.cons (h 0 d v rfl rfl)<|VRels.of_get (by simpa using l) λj d v a b=>h (j+1) d v (by simpa using a) (by simpa using b)
 |[],_::_,l,_=>by cases l
 |_::_,[],l,_=>by cases l
section
variable{T:Tab}{g:ft}{X:Cx}{sc:Scope}{N:List Str}{pos p1 p2 q1 ap cp:Pos}
def xh{b':Ex}{Q:VK}(hu:X.A.units+100<cLine)(h:tE X.K (run g<|.inV a' b') W H Q):Dn X (tE X.K<|run g a') (tE X.K<|run g b') W H Q:=by
 obtain⟨G,st,loc,S,L,P⟩:=h;obtain⟨x,st1,e1,P⟩:=aP P;obtain⟨y,Y,e2,P⟩:=aP P;refine bp S L e1 λH1 G1 v E1 S1 r1=>bp S1 (L.ext E1) e2 λH2 G2 u E2 S2 r2=>?_;unfold Cd at P;split at P
 .rename_i kvs hk;obtain⟨n,rfl,hn⟩:=jJ hk;split at P
  .rename_i k ha;obtain⟨h1,h2⟩:=EM ha;cases r2 with
   |ref hl=>
    obtain⟨vs,g1,g2⟩:=S2.ob _ _ hn;have ll:=g2.length;refine⟨_,vs,λj=>(kvs.map (·.2))[j]?.elim false λy=>dX 60 Y y x==some true,rfl,g1,λpins s u uv j v I rx hv rv=>?_,?_⟩
    .have hr:=g2.vals;have J:(vs.map (·.2))[j]? =some v:=by rw[az];exact hv
     have hj:j<(kvs.map (·.2)).length:=by
      have:=(au J).1;simp only[length_map] at this ⊢
      lia
     have e:(kvs.map (·.2))[j]? =some ((kvs.map (·.2))[j]):=aA hj;obtain⟨w,hw,Z⟩:=hr.get e;rw[J] at hw;cases hw;obtain⟨b,hb⟩:=h2 j _ e;dsimp only;rw[e];obtain⟨_,_,h3⟩:=jG I S2 60 (A:=X.A.in1) hb ⟨_,Z,rv⟩ ⟨_,r1.ext E2,rx⟩ (by show X.A.units+1+60<cLine;lia)
     rw[Option.elim_some,hb];cases b<;>exact h3
    .rw[<-ll,<-length_map (f:=(·.2)) (as:=kvs),<-h1];exact(P.mono<|E1.trans E2).same S2<|.bl k
  .exact P.elim
 .exact P.elim
def Et(C:Ctx T g X sc N)(I:T.calm=true)(Z:(ap.endLine==cp.line)=true)(hb:attributeBase o "values" X.env (eval o X.env)=eval o X.env)(ha:PE X a (tE X.K<|run g a'))(ho:PE X o (tE X.K<|run g o')):
  PE X (.Compare a [.In] [.Call (.Attribute o "values" ap) [] [] cp] pos) (tE X.K<|run g<|.inV a' o')/\PT X (.Compare a [.In] [.Call (.Attribute o "values" ap) [] [] cp] pos) (tT X.K<|run g<|.inV a' o'):=by
 have J:=BJ (C.calm I) ha ho hb Z;exact⟨(BG J rfl).imp λW H Q h=>xh C.un h,(Br J rfl).imp λW H Q h=>nS (λQ' Y=>xh C.un Y) h⟩
theorem m8:∀{kvs:List (Key×D)}{ns:List Int},m_ kvs=some ns->kvs.map (·.1)=ns.map (Sum.inl:Int->Key)
 |[],ns,h=>by cases h;rfl
 |(.inl n,d)::r,ns,h=>by obtain⟨I,h1,rfl⟩:=map_some h;rw[map_cons,map_cons,m8 h1]
 |(.inr _,_)::_,_,h=>by cases h
def El(C:Ctx T g X sc N)(hcm:T.calm=true)(hg:bE sc "sorted"=true)(hl:(ap.endLine==cp.line)=true)(hb:attributeBase o "items" X.env (eval o X.env)=eval o X.env)(ho:PE X o (tE X.K<|run g o')):
  PE X (.Call (.Name "sorted" p1) [.Call (.Attribute o "items" ap) [] [] cp] [] q1) (tE X.K<|run g<|.sit o'):=by
 refine(Bz (C.calm hcm) (fg C hg) (C.blt _ (by decide+kernel)) ho hb hl).imp λW H Q hp=>?_
 obtain⟨G,st,loc,S,L,P⟩:=hp;obtain⟨x,st1,e1,P⟩:=aP P;refine bp S L e1 λH1 G1 v E1 Z r1=>?_;unfold A2 at P;split at P
 .rename_i kvs hk;obtain⟨n,rfl,hn⟩:=jJ hk;split at P
  .rename_i ns hns;split at P
   .rename_i hc;cases r1 with
    |ref hl=>
     obtain⟨vs,g1,g2⟩:=Z.ob _ _ hn;have ll:=g2.length;have J:=m8 hns;have ln:kvs.length=ns.length:=by simpa using congrArg List.length J
     refine⟨_,vs,ns,rfl,g1,by rw[<-g2.keys];exact J,hc.1,by rw[<-ll];exact hc.2,λHm as p la Y hF hN hp hT=>?_⟩
     have E2:Ext H1 Hm G1 G1 st1.length st1.length:=⟨⟨af _,λ_ _=>rfl,λb xs e=>Y b _ e,λb ob u e=>Y b _ e⟩,λb ob e k=>⟨Y b _ e,k⟩⟩
     have S2:Sim X.K Hm G1 st1:=⟨Z.inj,λi ob e=>(Z.ob i ob e).move E2.toExt0 (by obtain⟨u,h,_⟩:=Z.obj (au e).1;rw[h,Y _ _ h])⟩
     refine b_.alloc S2 (P.mono<|E1.trans E2) (VRels.of_get (by simp;lia) λj d v hd I=>?_) p hp
     rw[az] at hd I;cases ha:as[j]? with
     |none=>rw[ha] at I;cases I
     |some b=>
      rw[ha] at I;cases I;have hj:j<as.length:=(au ha).1;have h1:ns[j]? =some ns[j]:=aA (by omega)
      have h2:kvs[j]? =some kvs[j]:=aA (by omega)
      rw[List.getElem?_zip_eq_some (z:=(ns[j],kvs[j]))|>.mpr ⟨h1,h2⟩] at hd;cases hd;obtain⟨w,hw,rw'⟩:=g2.vals.get (i:=j) (d:=kvs[j].2) (by rw[az,h2];rfl)
      exact .tup (.inl<|.inl<|hT j b _ w ha h1 (by rw[<-az];exact hw))<|.cons (.int _)<|.cons (rw'.ext E2) .nil
   .exact P.elim
  .exact P.elim
 .exact P.elim
mutual
theorem VRel.nr{K:aw}:∀{d:D}{v:V},VRel K H G m d v->sT d=true->VRel K H G 0 d v
 |_,_,.non,_=>.non
 |_,_,.bl b,_=>.bl b
 |_,_,.int i,_=>.int i
 |_,_,.str x,_=>.str x
 |_,_,.tup h r,e=>.tup h<|VRels.nr r e
 |_,_,.fl _ _,e=>by cases e
 |_,_,.ref _,e=>by cases e
theorem VRels.nr{K:aw}:∀{ds:List D}{vs:List V},VRels K H G m ds vs->ig ds=true->VRels K H G 0 ds vs
 |_,_,.nil,_=>.nil
 |_,_,.cons h t,e=>by have e:(sT _&&ig _)=true:=e;rw[and_eq_true] at e;exact .cons (VRel.nr h e.1)<|VRels.nr t e.2
end
theorem tz{all:List (Key×D)}:∀{kvs:List (Key×D)}{ks:List D},rp all y kvs=some ks->∃f:Nat->Bool,(∀(j:Nat) p,kvs[j]? =some p->∃d,d_ all p.1=some d/\dX 60 [] d y=some (f j))/\ks=((range kvs.length).filterMap λj=>if f j=true then(kvs[j]?).map λp=>B4 p.1 else none)
 |[],ks,h=>by cases h;exact⟨λ_=>false,λj p e=>by simp at e,rfl⟩
 |p::r,ks,h=>by
  obtain⟨d,h0,h⟩:=bs h;split at h
  .rename_i b ks2 h1 Y;cases h;obtain⟨f,J,I⟩:=tz Y;refine⟨λj=>match j with|0=>b|j+1=>f j,λj q e=>?_,?_⟩
   .cases j with
    |zero=>cases e;exact⟨d,h0,h1⟩
    |succ j=>exact J j q (by simpa using e)
   .rw[length_cons,List.range_succ_eq_map,filterMap_cons,List.filterMap_map];cases b with
    |true=>rw[I];congr 1
    |false=>simp only[false_eq_true,if_false];rw[I];congr 1
  .cases h
def wZ{K:aw}(k:Key):VRel K H G m (B4 k) (kV k):=by
 cases k with
 |inl i=>exact .int i
 |inr s=>exact .str s
def FS:EW X (λx y H Q=>∃a k w,x=.ref a/\y=kV k/\mh H a (kV k) (some w)/\X.A.units+1<cLine/\Q w H):=by intro value slice pins s W H vx vy ux uy Q I Y J h hs;obtain⟨a,k,w,rfl,rfl,g,Z,q⟩:=h;subst Y;exact tail_any (jW I g) PySem.F.slot_dict_getitem.lookup (np Z I g J λw' s' I' rw2=>⟨w,H,I',rw2,q⟩) hs
def BO:jM X (compareOp .Eq) (λx y H Q=>∃G dx J k,VRel X.K H G 0 dx x/\VRel X.K H G 0 J y/\dX 60 [] dx J=some k/\X.A.units+100<cLine/\Q (.bl k) H):=by
 intro pins s W H vx vy ux uy Q I Z Y h;obtain⟨G,dx,J,k,hx,hy,e,hu,q⟩:=h;obtain⟨h1,_,_⟩:=jG I ⟨λi _ hi=>absurd hi<|not_lt_zero _,λi o e=>by simp at e⟩ 60 (A:=X.A) e ⟨_,hx,Z⟩ ⟨_,hy,Y⟩ (by lia)
 exact h1 _ _ _ _ ⟨.bl k,H,I,rfl,q⟩
theorem eP{K:aw}{H:Hp}{G:Nat->Addr}{m:Nat}{F:Nat->Option D}{U:Nat->Option V}(h:∀j,(F j=none/\U j=none)\/∃d v,F j=some d/\U j=some v/\VRel K H G m d v):∀l:List Nat,VRels K H G m (l.filterMap F) (l.filterMap U)
 |[]=>.nil
 |j::l=>by
  rw[filterMap_cons,filterMap_cons];rcases h j with⟨e1,e2⟩|⟨d,v,e1,e2,r⟩
  .rw[e1,e2];exact eP h l
  .rw[e1,e2];exact .cons r<|eP h l
def DRels.key_at{K:aw}(h:DRels K H G m kvs vs)(j:Nat):(kvs[j]?).map (·.1)=(vs[j]?).map (·.1):=by rw[<-az,<-az,h.keys]
theorem pH:∀{ds:List D}{d:D},ig ds=true->d∈ds->sT d=true
 |_::_,_,h,.head _=>by
  have h:(sT _&&ig _)=true:=h
  simp_all
 |_::_,_,h,.tail _ t=>by have h:(sT _&&ig _)=true:=h;rw[and_eq_true] at h;exact pH h.2 t
theorem pj:∀{kvs:List (Key×D)}{k:Key}{d:D},d_ kvs k=some d->d∈kvs.map (·.2)
 |p::r,k,d,h=>by
  unfold d_ at h;split at h
  .simp_all
  .exact .tail _<|pj h
def Ep{d k:Str}(C:Ctx T g X sc N)(hc:cm sc scope N x=true)(hd:xT sc d)(hk:xT sc k)(Ay:dM N d=some i)(hik:dM N k=some j)
  (hd1:xT (cL sc scope) d)(hk1:xT (cL sc scope) k)(hx1:xT (cL sc scope) x)(hid1:dM (x::eJ scope N) d=some (i+1))(hik1:dM (x::eJ scope N) k=some (j+1)):
  f9 g X x px (.Name d p2) [.Compare (.Subscript (.Name d p3) (.Name x p4) p5) [.Eq] [.Name k p7] p6] (.Name x p8) scope (.keq i j):=by
 have v0:PE X (.Name d p2) (qH i):=by
  obtain⟨h1,h2⟩:=C.nm d<|ah<|ci Ay;exact q_ (by rw[C.n];exact ci Ay) (by rw[C.sc];exact hd) h1 h2
 have vs:∀fp s H {z:Str}{pz:Pos}{l:Nat},dM (x::eJ scope N) z=some l->xT (cL sc scope) z->PE (bI X x scope fp s H) (.Name z pz) (qH l):=λfp s H {z pz l} h1 h2=>by
  have C1:=eD C hc fp s H;obtain⟨h3,h4⟩:=C1.nm z<|ah<|ci h1;exact q_ (by rw[C1.n];exact ci h1) (by rw[C1.sc];exact h2) h3 h4
 have hx0:dM (x::eJ scope N) x=some 0:=if_pos rfl
 refine⟨_,sk<|AW (λx y H Q=>∃G dx dy k,VRel X.K H G 0 dx x/\VRel X.K H G 0 dy y/\dX 60 [] dx dy=some k/\X.A.units+100<cLine/\Q (.bl k) H) (AW (λx y H Q=>∃a k w,x=.ref a/\y=kV k/\mh H a (kV k) (some w)/\X.A.units+1<cLine/\Q w H) (qH<|i+1)<|qH 0)<|qH<|j+1,qH 0,
  ui v0,λfp s H=>sH<|sI BO (An FS (vs fp s H hid1 hd1) (vs fp s H hx0 hx1)<|λ_ _=>rfl) (vs fp s H hik1 hk1) rfl,λfp s H=>vs fp s H hx0 hx1,λ_=>rfl,λW H Q hp=>.inr ?_⟩
 obtain⟨G,st,loc,S,L,P⟩:=hp;obtain⟨xd,st1,e1,P1⟩:=aP P;obtain⟨yd,st2,e2,J⟩:=aP P1;obtain⟨e3,rfl⟩:=bZ e1;obtain⟨e4,rfl⟩:=bZ e2
 have jn:∀{l:Nat}{z:D},loc[l]?.join=some z->loc[l]? =some (some z):=λ{l z} h=>by
  cases q:loc[l]? with
  |none=>rw[q] at h;cases h
  |some o=>rw[q] at h;cases o with
   |none=>cases h
   |some w=>cases h;rfl
 obtain⟨vx,hvx,rx⟩:=L.at_ i _<|jn e3;obtain⟨vy,hvy,ry⟩:=L.at_ j _<|jn e4;unfold zu at J;cases hkv:c8 st2 xd with
 |none=>rw[hkv] at J;exact J.elim
 |some kvs=>
 rw[hkv] at J;dsimp only at J;by_cases hcd:sT yd=true/\ig (kvs.map (·.2))=true/\kvs.length<=1000
 rotate_left
 .rw[if_neg hcd] at J;exact J.elim
 rw[if_pos hcd] at J;cases hks:rp kvs yd kvs with
 |none=>rw[hks] at J;exact J.elim
 |some ks=>
 rw[hks] at J;dsimp only at J;obtain⟨n,rfl,hn⟩:=jJ hkv;obtain⟨f,hf,hks2⟩:=tz hks;cases rx with
 |ref hlt=>
  obtain⟨I,g1,g2⟩:=S.ob _ _ hn;have ll:=g2.length;have sz:sizeLine=16777216:=sizeLine_eq;refine⟨_,hvx,G n,I,rfl,g1,λo nf Dd hDd=>?_⟩;have hne:G n≠Dd:=λe=>by rw[<-e,aT] at hDd;cases hDd
  have hD0:H Dd=none:=by rw[aq hne.symm] at hDd;exact hDd
  let Y:Nat->List V:=λl=>(range l).filterMap λj=>if f j=true then(I[j]?).map λp=>kV p.1 else none
  have hY:∀l,(Y l).length<=l:=λl=>by
   have:=List.length_filterMap_le (λj=>if f j=true then(I[j]?).map λp=>kV p.1 else none)<|range l
   simpa[Y] using this
  refine⟨λl m ys H2=>l+m=I.length/\H2=upd (upd H (G n)<|.frz o<|.dK I) Dd (.lst ys)/\ys=Y l,⟨I.length,Nat.zero_add _,rfl,rfl⟩,?_⟩;rintro l m ys H2 ⟨hlm,rfl,rfl⟩;have Z:(upd (upd H (G n)<|.frz o<|.dK I) Dd<|.lst<|Y l) (G n)=some (.frz o<|.dK I):=by rw[aq hne,aT]
  cases m with
  |zero=>
   refine .inl ⟨⟨Z,by lia⟩,G n,o,I,Z,nf,?_⟩
   have he:upd (upd (upd H (G n)<|.frz o<|.dK I) Dd<|.lst<|Y l) (G n) (.dK I)=upd H Dd (.lst<|Y l):=by
    funext b;by_cases hb:b=G n
    .subst hb;rw[aT,aq hne,g1]
    .rw[aq hb];by_cases hb2:b=Dd
     .subst hb2;rw[aT,aT]
     .rw[aq hb2,aq hb2,aq hb]
   rw[he];refine b_.alloc S J ?_ Dd hD0;rw[hks2];have e:kvs.length=l:=by lia
   rw[e];refine eP (λq=>?_) _;have:=g2.key_at q;cases hfq:f q with
   |false=>exact .inl ⟨rfl,rfl⟩
   |true=>
    simp only[if_true];cases h1:kvs[q]? with
    |none=>
     rw[h1] at this;cases h2:I[q]? with
     |none=>exact .inl ⟨rfl,rfl⟩
     |some p=>rw[h2] at this;cases this
    |some p=>
     rw[h1] at this;cases h2:I[q]? with
     |none=>rw[h2] at this;cases this
     |some p'=>rw[h2] at this;have e:p.1=p'.1:=ak this;refine .inr ⟨_,_,rfl,rfl,?_⟩;dsimp only;rw[e];exact wZ _
  |succ m=>
   have hl:l<I.length:=by lia
   have hw:I[l]? =some I[l]:=aA hl;refine .inr ⟨⟨Z,_,hw⟩,λys' H'=>H'=upd (upd H (G n)<|.frz o<|.dK I) Dd (.lst ys')/\ys'=Y (l+1),λys' H' hN=>⟨m,aK _,by lia,hN⟩,λxv H' hy=>?_⟩
   obtain⟨rfl,p,hp,rfl⟩:=hy;rw[hw] at hp;cases hp;have hkl:l<kvs.length:=by lia
   have hkq:kvs[l]? =some kvs[l]:=aA hkl;obtain⟨dv,hdv,hde⟩:=hf l _ hkq
   have hkk:kvs[l].1=I[l].1:=by have:=g2.key_at l;rw[hkq,hw] at this;exact ak this
   rw[hkk] at hdv;have lk:=g2.look (k:=I[l].1);rw[hdv] at lk;obtain⟨w,hwv,rw'⟩:=lk
   have E2:Ext0 H (upd (upd H (G n)<|.frz o<|.dK I) Dd<|.lst<|Y l) G G 0 0:=⟨af _,λ_ h=>absurd h<|not_lt_zero _,λb xs e=>by
     rw[aq<|aE e hD0,aq<|cg e g1 (by intro z;cases z)];exact e,λb ob u e=>by
     rw[aq<|aE e hD0,aq<|cg e g1 (by intro z;cases z)];exact e⟩
   have hu:=C.un
   have yl:Y (l+1)=if f l=true then Y l++[kV I[l].1] else Y l:=by
    show(range<|l+1).filterMap _=_;rw[range_succ,List.filterMap_append];cases hfl:f l with
    |true=>simp[hfl,hw,Y]
    |false=>simp[hfl,Y]
   refine⟨_,by simpa using hvx,_,rfl,_,_,w,rfl,rfl,.inl ⟨I,_,.inr ⟨o,Z⟩,rfl,hwv.symm⟩,by lia,_,by simpa using hvy,G,dv,yd,f l,?_,?_,hde,hu,_,rfl,?_⟩
   .exact VRel.ext0 E2<|rw'.nr<|pH hcd.2.1<|pj hdv
   .exact VRel.ext0 E2<|ry.nr hcd.1
   .cases hfl:f l with
    |false=>rw[if_neg bf];refine⟨rfl,?_⟩;rw[yl,hfl];rfl
    |true=>
     rw[if_pos rfl];refine⟨_,rfl,aT,by have:=hY l;lia,?_,?_⟩
     .funext b;by_cases hb:b=Dd
      .cases hb;rw[aT,aT]
      .rw[aq hb,aq hb,aq hb]
     .rw[yl,hfl];rfl
end
def Plain(es:List Expr)(env:Env)(pos:Pos):Prop:=(backTo pos<|starEach es env).any (·.1)=false
def qX{env:Env}(h:starEach (e::es) env=(false,eval e env)::starEach es env)(k:Plain es env pos):Plain (e::es) env pos:=by unfold Plain at k ⊢;rw[h];trivial
def SX(g:ft)(X:Cx)(e:Expr)(x:Ex):Prop:=PE X e (tE X.K<|run g x)/\PT X e (tT X.K<|run g x)
def SE(T:Tab)(g:ft)(n:Nat):Prop:=∀{X:Cx}{sc:Scope}{N:List Str}{e:Expr}{x:Ex},Ctx T g X sc N->cE T n sc N e=some x->SX g X e x
def EQ(T:Tab)(g:ft)(n:Nat):Prop:=∀{X:Cx}{sc:Scope}{N:List Str}{es:List Expr}{xs:List Ex},Ctx T g X sc N->vd T n sc N es=some xs->
 PA X es (tA X.K<|runs g xs)/\es.length=xs.length/\(∀pos,Plain es X.env pos)/\∀e r,es=e::r->starEach (e::r) X.env=(false,eval e X.env)::starEach r X.env/\∀pos,Plain r X.env pos
def SC(T:Tab)(g:ft)(n:Nat):Prop:=∀{X:Cx}{sc scope:Scope}{N:List Str}{x:Str}{elt src:Expr}{ifs:List Expr}{y:Ex}{px:Pos},Ctx T g X sc N->cm sc scope N x=true->
 (nz T n sc N false src x elt ifs scope=some y->f9 g X x px src ifs elt scope y)/\
 (∀p3 p4,bE sc "range"=true->nz T n sc N true src x elt ifs scope=some y->f9 g X x px (.Call (.Name "range" p3) [src] [] p4) ifs elt scope y)
def vX{T:Tab}(h:SE T g n)(hs:EQ T g n):EQ T g (n+1):=by
 intro X sc N es xs C e;cases es with
 |nil=>cases e;refine⟨dk.imp λW H Q Y=>?_,rfl,λpos=>rfl,λ_ _ z=>nomatch z⟩;obtain⟨G,st,loc,S,L,P⟩:=Y;exact P H G [] (Ext.refl _ _ _) S .nil
 |cons a0 as0=>
  replace e:=bs e
  obtain⟨e1,I,e⟩:=e
  replace e:=map_some e
  obtain⟨Z,J,rfl⟩:=e;have h1:=h C I;obtain⟨h2,h3,h4,_⟩:=hs C J;have st:=cP I as0 X.env;refine⟨(cf h1.1 h2 st).imp λW H Q Y=>?_,by simp[h3],λpos=>qX st<|h4 pos,λa b z=>by simp_all⟩
  obtain⟨G,st,loc,S,L,P⟩:=Y
  replace P:=qj P
  obtain⟨d,st1,e1,P⟩:=P
  replace P:=qj P
  obtain⟨ds,st2,I,P⟩:=P;exact bp S L e1 λH1 G1 v E1 S1 Z=>k7 S1 (L.ext E1) I λH2 G2 vs E2 S2 J=>P H2 G2 (v::vs) (E1.trans E2) S2<|.cons (Z.ext E2) J
def yF{T:Tab}(h:SE T g n):SC T g (n+1):=by
 intro X sc scope N x elt J ifs y px C I
 have k:∀{b:Bool},nz T (n+1) sc N b J x elt ifs scope=some y->∃s' e',cE T n sc N J=some s'/\(∀fp s H,PE (bI X x scope fp s H) elt<|tE X.K<|run g e')/\((ifs=[]/\y=.comp b s' e')\/∃c c',ifs=[c]/\b=false/\(∀fp s H,PT (bI X x scope fp s H) c<|tT X.K<|run g c')/\y=.compIf s' c' e'):=by
  intro b e
  replace e:=bs e
  obtain⟨s',e1,e⟩:=e
  replace e:=bs e
  obtain⟨e',e2,e⟩:=e;rcases ifs with _|⟨c,_|⟨c2,r⟩⟩
  .cases e;exact⟨s',e',e1,λfp s H=>(h (eD C I fp s H) e2).1,.inl ⟨rfl,rfl⟩⟩
  .replace e:=eG e
   obtain⟨Z,e⟩:=e
   replace e:=map_some e
   obtain⟨c',e3,rfl⟩:=e;exact⟨s',e',e1,λfp s H=>(h (eD C I fp s H) e2).1,.inr ⟨c,c',rfl,Z,λfp s H=>(h (eD C I fp s H) e3).2,rfl⟩⟩
  .cases e
 refine⟨λe=>?_,λp3 p4 hg e=>?_⟩
 .obtain⟨s',e',e1,Y,⟨rfl,rfl⟩|⟨c,c',rfl,_,h3,rfl⟩⟩:=k e
  .exact Cw C I (h C e1).1 Y<|ia e1 X.env
  .exact xA C I (h C e1).1 h3 Y<|ia e1 X.env
 .obtain⟨s',e',e1,Y,⟨rfl,rfl⟩|⟨c,c',_,Z,_⟩⟩:=k e
  .exact zS C I hg (cP e1 [] X.env) (h C e1).1 Y
  .cases Z
def both{m:Loc->M D}(h:PE X e (tE X.K m))(I:∀whole,isTrue e X.env whole=(do let v <-whole;standAt e.pos;holding [v]<|truthy v)):PE X e (tE X.K m)/\PT X e (tT X.K m):=⟨h,wq h I⟩
def tV{T:Tab}(h:SE T g n)(hc:SC T g n){gens:List Comprehension}(C:Ctx T g X sc N)(ex:cE T (n+1) sc N (.ListComp elt gens scope pos)=some y){G:Prop}
  (k1:∀x px it ifs,gens=[⟨.Name x px,it,ifs,0⟩]->T.calm=true->cm sc scope N x=true->f9 g X x px it ifs elt scope y->G)
  (k2:∀x z px py k pt it ifs,gens=[⟨.Tuple [.Name x px,.Name z py] k pt,it,ifs,0⟩]->T.calm=true->c9 sc scope N x z=true->iH g X x z px py k pt it ifs elt scope y->G):G:=by
 replace ex:=bs ex
 obtain⟨q,Y,ex⟩:=ex;have Y:=xo Y;obtain⟨t,it,ifs⟩:=q
 replace ex:=om ex
 rcases ex with⟨x,hx,ex⟩|⟨_,ex⟩
 .obtain⟨px,e⟩:=cw hx;subst e
  replace ex:=eG ex
  obtain⟨⟨J,I⟩,ex⟩:=ex;refine k1 x px it ifs Y J I ?_
  replace ex:=om ex
  rcases ex with⟨z,hz,ex⟩|⟨_,ex⟩
  .obtain⟨d,p1,p2,p3,p4,p5,p6,e1,Z,e3,e4⟩:=w6 hz
   replace ex:=bs ex
   obtain⟨⟨d0,i0⟩,n1,ex⟩:=ex
   replace ex:=bs ex
   obtain⟨⟨k0,j0⟩,n2,ex⟩:=ex
   replace ex:=bs ex
   obtain⟨⟨d1,i1⟩,n3,ex⟩:=ex
   replace ex:=bs ex
   obtain⟨⟨k1,j1⟩,n4,ex⟩:=ex
   replace ex:=eG ex
   obtain⟨⟨hi,hj,hx⟩,ex⟩:=ex;cases ex;obtain⟨a1,b1,c1,d1'⟩:=iU n1;obtain⟨a2,b2,c2,d2⟩:=iU n2;obtain⟨a3,b3,c3,d3⟩:=iU n3;obtain⟨a4,b4,c4,d4⟩:=iU n4;dsimp only at*;rw[e3] at b1 b3;rw[Z] at b1 b3;cases b1;cases b3;rw[b2] at b4;cases b4;rw[hi] at d3;rw[hj] at d4;rw[e1,Z,e4,b2];exact Ep C I c1 c2 d1' d2 c3 c4 (.inl hx) d3 d4
  replace ex:=om ex
  rcases ex with⟨⟨r,a⟩,hr,ex⟩|⟨_,ex⟩
  .obtain⟨p3,p4,e⟩:=ny hr;subst e
   replace ex:=Gp ex
   rcases ex with⟨⟨e,hg2⟩,ex⟩|ex
   .subst e;exact(hc C I).2 _ _ hg2 ex
   .exact(hc C I).1 ex
  .exact(hc C I).1 ex
 .replace ex:=bs ex
  obtain⟨⟨x,z⟩,hz,ex⟩:=ex
  replace ex:=eG ex
  obtain⟨⟨I,J⟩,ex⟩:=ex;obtain⟨_,_,_,_,e⟩:=um hz;subst e
  replace ex:=bs ex
  obtain⟨e',Z,ex⟩:=ex;have he:=λfp s H=>(h (jK C I fp s H) Z).1;refine k2 _ _ _ _ _ _ _ _ Y J I ?_;cases ifs with
  |cons=>cases ex
  |nil=>
   replace ex:=map_some ex
   obtain⟨a',e1,rfl⟩:=ex;exact zR C J I (h C e1).1 (ia e1 X.env) he
def zO{T:Tab}{m:Str}(C:Ctx T g X sc N)(h:(ap.endLine==pos.line)=true)(J:args.length<29)(I:attributeBase o m X.env (eval o X.env)=eval o X.env)(ho:PE X o (tE X.K<|run g o'))
  (Y:PA X args (tA X.K<|runs g xs)/\args.length=xs.length/\(∀pos,Plain args X.env pos)/\∀e r,args=e::r->starEach (e::r) X.env=(false,eval e X.env)::starEach r X.env/\∀pos,Plain r X.env pos):PE X (.Call (.Attribute o m ap) args [] pos) (tE X.K<|run g<|.meth o' m (T.ims m) xs):=by
 obtain⟨h1,h2,h0,h3⟩:=Y;cases args with
 |nil=>have:=List.length_eq_zero_iff.mp h2.symm;subst this;exact zP C h I ho
 |cons a as=>obtain⟨h4,Z⟩:=h3 _ _ rfl;exact Cu C h J I ho h1 h4 (Z _)<|h0 _
def yD{T:Tab}(h:SE T g n)(hs:EQ T g n){x:Ex}(C:Ctx T g X sc N)(ex:cE T (n+1) sc N (.Call (.Name f fp) args [] cp)=some x):SX g X (.Call (.Name f fp) args [] cp) x:=by
 replace ex:=eG ex
 obtain⟨hg,ex⟩:=ex
 replace ex:=om ex
 rcases ex with⟨w,I,ex⟩|⟨_,ex⟩
 .replace ex:=eG ex
  obtain⟨⟨hk,J⟩,ex⟩:=ex
  replace ex:=bs ex
  obtain⟨e',h1,ex⟩:=ex
  replace ex:=map_some ex
  obtain⟨a',Z,rfl⟩:=ex
  replace I:=eG I
  obtain⟨rfl,I⟩:=I
  replace I:=bs I
  obtain⟨c,h3,I⟩:=I;cases cH h3;obtain⟨elt,x,o,scope⟩:=w;obtain⟨px,ap,cp,ps,rfl,h4,h5⟩:=tq I;exact both (Ej C hg J hk h4 (dC h5 _ _) (h C Z).1 λfp s H=>(h (eD C hk fp s H) h1).1) λ_=>rfl
 replace ex:=om ex
 rcases ex with⟨w,I,ex⟩|⟨_,ex⟩
 .replace ex:=eG ex
  obtain⟨⟨hk,J⟩,ex⟩:=ex
  replace ex:=bs ex
  obtain⟨e',h1,ex⟩:=ex
  replace ex:=map_some ex
  obtain⟨a',Z,rfl⟩:=ex
  replace I:=eG I
  obtain⟨rfl,I⟩:=I
  replace I:=bs I
  obtain⟨c,h3,I⟩:=I;cases cH h3;obtain⟨elt,it,⟨x,y,z⟩,scope⟩:=w;obtain⟨p1,p2,p3,k,pt,ps,rfl⟩:=zk I;exact both (Cr C hg J hk (h C Z).1 (ia Z X.env) λfp s H=>(h (uU C hk fp s H) h1).1) λ_=>rfl
 replace ex:=om ex
 rcases ex with⟨o,I,ex⟩|⟨_,ex⟩
 .replace ex:=eG ex
  obtain⟨J,ex⟩:=ex
  replace ex:=map_some ex
  obtain⟨o',ha,rfl⟩:=ex
  replace I:=eG I
  obtain⟨rfl,I⟩:=I
  replace I:=bs I
  obtain⟨c,h1,I⟩:=I;cases cH h1;obtain⟨ap,cp',rfl,h4,h5⟩:=iW I;exact both (El C J hg h4 (dC h5 _ _) (h C ha).1) λ_=>rfl
 cases args with
 |nil=>cases ex
 |cons a as=>
  have kk:∀{xs:List Ex},vd T n sc N (a::as)=some xs->PA X (a::as) (tA X.K<|runs g xs)/\(a::as).length=xs.length/\starEach (a::as) X.env=(false,eval a X.env)::starEach as X.env/\∀pos,Plain as X.env pos:=λhx=>by obtain⟨h1,Z,_,h3⟩:=hs C hx;exact⟨h1,Z,h3 _ _ rfl⟩
  replace ex:=om ex
  rcases ex with⟨i,hi,ex⟩|⟨_,ex⟩
  .replace ex:=map_some ex
   obtain⟨xs,hx,rfl⟩:=ex;obtain⟨h1,Z,h4,h5⟩:=kk hx;exact both (F0 C hg hi h1 Z h4<|h5 _) λ_=>rfl
  replace ex:=om ex
  rcases ex with⟨j,hj,ex⟩|⟨_,ex⟩
  .replace ex:=map_some ex
   obtain⟨xs,hx,rfl⟩:=ex;obtain⟨h1,_,h4,h5⟩:=kk hx;exact both (En C hg hj h1 h4<|h5 _) λ_=>rfl
  replace ex:=om ex
  rcases ex with⟨b,hb,ex⟩|⟨_,ex⟩
  .replace ex:=eG ex
   obtain⟨J,ex⟩:=ex
   replace ex:=map_some ex
   obtain⟨xs,hx,rfl⟩:=ex;obtain⟨h1,_,h4,h5⟩:=kk hx;exact both (F4 C J hg hb h1 h4<|h5 _) λ_=>rfl
  replace ex:=eG ex
  obtain⟨hf,ex⟩:=ex
  replace ex:=bs ex
  obtain⟨t',h1,ex⟩:=ex
  replace ex:=bs ex
  obtain⟨t,Z,ex⟩:=ex
  replace ex:=eG ex
  obtain⟨hgt,ex⟩:=ex
  replace ex:=bs ex
  obtain⟨a',ha,Y⟩:=ex;cases cH h1;obtain⟨_,rfl⟩:=cw Z;subst hf
  replace Y:=om Y
  rcases Y with⟨ty,hi,Y⟩|⟨_,Y⟩
  .cases Y;exact both (Es C hg hgt hi (h C ha).1<|cP ha _ _) λ_=>rfl
  replace Y:=eG Y
  obtain⟨hi,Y⟩:=Y;cases Y;exact both (Er C hg hgt hi (h C ha).1<|cP ha _ _) λ_=>rfl
def BD{i:Int}{k:Nat}{p q:Pos}:PE X (.UnaryOp .USub (.Constant (.int i) k p) q) (tC<|.int<|-i):=(DL AT re).imp λW H Q h=>⟨i,rfl,h⟩
def yC{T:Tab}(h:SE T g n)(hs:EQ T g n)(hc:SC T g n)(hd:SD T g n):SE T g (n+1):=by
 intro X sc N e x C ex;cases e with
 |Constant k _ _=>
  cases k with
  |int=>cases ex;exact both (h_ (X:=X) (g:=g) re (d:= .int _)<|λ_ _ _=>.int _) λ_=>rfl
  |str=>cases ex;exact both (h_ (X:=X) (g:=g) wz (d:= .str _)<|λ_ _ _=>.str _) λ_=>rfl
  |bool=>cases ex;exact both (h_ (X:=X) (g:=g) DO (d:= .bl _)<|λ_ _ _=>.bl _) λ_=>rfl
  |none=>cases ex;exact both (h_ (X:=X) (g:=g) BC (d:= .non)<|λ_ _ _=>.non) λ_=>rfl
  |_=>cases ex
 |Name y _=>
  replace ex:=bs ex
  obtain⟨k,q,ex⟩:=ex;cases k with
  |«local»=>
   replace ex:=map_some ex
   obtain⟨i,hi,rfl⟩:=ex;exact both (xz C hi<|.inl q) λ_=>rfl
  |cell=>
   replace ex:=map_some ex
   obtain⟨i,hi,rfl⟩:=ex;exact both (xz C hi<|.inr<|.inl q) λ_=>rfl
  |free=>
   replace ex:=map_some ex
   obtain⟨i,hi,rfl⟩:=ex;exact both (xz C hi<|.inr<|.inr q) λ_=>rfl
  |globalImplicit=>
   replace ex:=map_some ex
   obtain⟨d,hd,rfl⟩:=ex;obtain⟨a1,u,v,a2,a3,a4⟩:=C.csts _ _ hd;exact both (h_ (sO (by show X.env.scope.names.lookup _=_;rw[C.sc];exact q) a2 a3 a1) a4) λ_=>rfl
  |_=>cases ex
 |Tuple es _ _=>
  replace ex:=eG ex
  obtain⟨hz,ex⟩:=ex
  replace ex:=map_some ex
  obtain⟨xs,hx,rfl⟩:=ex;obtain⟨h1,h2,_⟩:=hs C hx;exact both (AC h1 hz h2) λ_=>rfl
 |List es _=>
  replace ex:=eG ex
  obtain⟨hz,ex⟩:=ex
  replace ex:=map_some ex
  obtain⟨xs,hx,rfl⟩:=ex;obtain⟨h1,h2,_⟩:=hs C hx;exact both (Eo h1 hz h2) λ_=>rfl
 |Dict ks vs _=>
  cases ks with
  |nil=>
   cases vs with
   |nil=>cases ex;exact both (Ew (X:=X) (g:=g)) λ_=>rfl
   |cons=>cases ex
  |cons k ks=>
   replace ex:=om ex
   rcases ex with⟨ks',J,ex⟩|⟨_,ex⟩
   rotate_left
   .replace ex:=bs ex
    obtain⟨w,h0,ex⟩:=ex
    replace ex:=bs ex
    obtain⟨a',h1,ex⟩:=ex
    replace ex:=bs ex
    obtain⟨b',h2,ex⟩:=ex
    replace ex:=bs ex
    obtain⟨c',h3,ex⟩:=ex
    replace ex:=map_some ex
    obtain⟨d',h4,rfl⟩:=ex;obtain⟨e1,I⟩:=rQ h0;rw[e1,I];exact both (zQ (h C h1).1 (h C h2).1 (h C h3).1 (h C h4).1) λ_=>rfl
   replace ex:=bs ex
   obtain⟨vs',he,ex⟩:=ex
   replace ex:=eG ex
   obtain⟨hl,ex⟩:=ex;cases ex;exact both (Cv hd C J he hl.1 hl.2.1 hl.2.2) λ_=>rfl
 |BinOp a op b _=>
  replace ex:=bs ex
  obtain⟨a',e1,ex⟩:=ex
  replace ex:=bs ex
  obtain⟨o,I,ex⟩:=ex
  replace ex:=map_some ex
  obtain⟨b',e3,rfl⟩:=ex;exact both (Ez I (h C e1).1 (h C e3).1) λ_=>rfl
 |UnaryOp op a _=>
  cases op with
  |Not=>
   replace ex:=map_some ex
   obtain⟨a',ha,rfl⟩:=ex;exact⟨Em (h C ha).1,Dg (h C ha).2⟩
  |USub=>
   replace ex:=map_some ex
   obtain⟨i,ha,rfl⟩:=ex;obtain⟨_,_,rfl⟩:=pS ha;exact both (h_ (X:=X) (g:=g) BD (d:= .int _)<|λ_ _ _=>.int _) λ_=>rfl
  |_=>cases ex
 |BoolOp op es p=>
  rcases es with _|⟨a,_|⟨b,r⟩⟩
  .cases ex
  .exact⟨BA (h C ex).1,Df (h C ex).2⟩
  .replace ex:=bs ex
   obtain⟨a',e1,ex⟩:=ex
   replace ex:=map_some ex
   obtain⟨b',I,rfl⟩:=ex;cases op with
   |And=>exact⟨EA (h C e1).1 (h C I).1,Di (h C e1).2 (h C I).2⟩
   |Or=>exact⟨FY (h C e1).1 (h C I).1,Fh (h C e1).2 (h C I).2⟩
 |Compare a ops bs' _=>
  replace ex:=om ex
  rcases ex with⟨o,J,ex⟩|⟨_,ex⟩
  .replace ex:=eG ex
   obtain⟨Y,ex⟩:=ex
   replace ex:=bs ex
   obtain⟨a',e1,ex⟩:=ex
   replace ex:=map_some ex
   obtain⟨o',I,rfl⟩:=ex
   replace J:=bs J
   obtain⟨op,ho,J⟩:=J;cases op with
   |In=>
    replace J:=bs J
    obtain⟨b,hb,J⟩:=J;cases cH ho;cases cH hb;obtain⟨ap,cp',rfl,h4,h5⟩:=iW J;exact Et C Y h4 (dC h5 _ _) (h C e1).1 (h C I).1
   |_=>cases J
  replace ex:=om ex
  rcases ex with⟨op,ho,ex⟩|⟨_,ex⟩
  .replace ex:=bs ex
   obtain⟨b,hb,ex⟩:=ex
   replace ex:=bs ex
   obtain⟨a',e1,ex⟩:=ex
   replace ex:=map_some ex
   obtain⟨b',I,rfl⟩:=ex;cases cH ho;cases cH hb;exact⟨Ey C.un (je I _) (h C e1).1 (h C I).1,Dh C.un (je I _) (h C e1).1 (h C I).1⟩
  .replace ex:=bs ex
   obtain⟨o,ho,ex⟩:=ex
   replace ex:=bs ex
   obtain⟨b,hb,ex⟩:=ex
   replace ex:=bs ex
   obtain⟨a',e1,ex⟩:=ex
   replace ex:=bs ex
   obtain⟨b',I,ex⟩:=ex
   replace ex:=map_some ex
   obtain⟨c',e3,rfl⟩:=ex;cases dZ ho;cases dZ hb;exact⟨zT C.un (je e3 _) (h C e1).1 (h C I).1 (h C e3).1,yt C.un (je e3 _) (h C e1).1 (h C I).1 (h C e3).1⟩
 |Subscript a b _=>
  replace ex:=om ex
  rcases ex with⟨⟨lo,hi⟩,hq,ex⟩|⟨_,ex⟩
  .obtain⟨p,rfl⟩:=yz hq;cases lo with
   |none=>
    replace ex:=bs ex
    obtain⟨hh,e0,ex⟩:=ex;subst e0
    replace ex:=bs ex
    obtain⟨a',e1,ex⟩:=ex
    replace ex:=map_some ex
    obtain⟨h',I,rfl⟩:=ex;exact both (Cs (h C e1).1 sM (kA (h C I).1) sQ iS) λ_=>rfl
   |some l=>
    replace ex:=bs ex
    obtain⟨a',e1,ex⟩:=ex
    replace ex:=bs ex
    obtain⟨l',I,ex⟩:=ex;cases hi with
    |none=>cases ex;exact both (Cs (h C e1).1 (kA (h C I).1) sM iS sQ) λ_=>rfl
    |some hh=>
     replace ex:=map_some ex
     obtain⟨h',e3,rfl⟩:=ex;exact both (Cs (h C e1).1 (kA (h C I).1) (kA (h C e3).1) iS iS) λ_=>rfl
  replace ex:=eG ex
  obtain⟨hp,ex⟩:=ex
  replace ex:=bs ex
  obtain⟨a',e1,ex⟩:=ex
  replace ex:=map_some ex
  obtain⟨b',I,rfl⟩:=ex;exact both (FZ C.un hp (h C e1).1 (h C I).1) λ_=>rfl
 |Call f args kws cp=>
  rcases kws with _|⟨kw,_|⟨kw2,l⟩⟩
  rotate_left
  .cases f with
   |Name f _=>
    replace ex:=eG ex
    obtain⟨⟨hg,hdf⟩,ex⟩:=ex
    replace ex:=bs ex
    obtain⟨w,Z,ex⟩:=ex
    replace ex:=eG ex
    obtain⟨⟨J,Y⟩,ex⟩:=ex
    replace ex:=bs ex
    obtain⟨e',h1,ex⟩:=ex
    replace ex:=map_some ex
    obtain⟨a',h2,rfl⟩:=ex
    replace Z:=eG Z
    obtain⟨rfl,Z⟩:=Z
    replace Z:=bs Z
    obtain⟨c,h3,Z⟩:=Z;cases cH h3;obtain⟨elt,x,o,scope⟩:=w;obtain⟨px,ap,cp,ps,rfl,h4,h5⟩:=tq Z;obtain⟨_,_,_,rfl⟩:=xc hdf;exact both (Ek C hg Y J h4 (dC h5 _ _) (h C h2).1 λfp s H=>(h (eD C J fp s H) h1).1) λ_=>rfl
   |_=>cases ex
  .cases ex
  .cases f with
   |Name f _=>exact yD h hs C ex
   |Attribute o m ap=>
    replace ex:=eG ex
    obtain⟨hm,ex⟩:=ex;simp only[and_eq_true,decide_eq_true_eq] at hm
    replace ex:=bs ex
    obtain⟨o',e1,ex⟩:=ex
    replace ex:=Gp ex
    rcases ex with⟨hpm,ex⟩|ex
    .replace ex:=bs ex
     obtain⟨a,ha,ex⟩:=ex
     replace ex:=eG ex
     obtain⟨hz,ex⟩:=ex;cases ex;cases cH ha;obtain⟨_,_,rfl⟩:=lJ hz;exact both (Ct hpm hm.1.2 (dC hm.1.1 _ _) (h C e1).1) λ_=>rfl
    .replace ex:=map_some ex
     obtain⟨as',I,rfl⟩:=ex;exact both (zO C hm.1.2 hm.2 (dC hm.1.1 _ _) (h C e1).1<|hs C I) λ_=>rfl
   |_=>cases ex
 |ListComp elt gens scope pos=>
  exact tV h hc C ex (λx px it ifs e Y J hd=>by subst e;exact both (hd.pe C Y J) λ_=>rfl) λx z px py k pt it ifs e Y J hd=>by subst e;exact both (hd.pe C Y J) λ_=>rfl
 |Attribute o f _=>
  replace ex:=eG ex
  obtain⟨hf,ex⟩:=ex
  replace ex:=map_some ex
  obtain⟨o',ho,rfl⟩:=ex;exact both (Eu C (dC hf _ _) (h C ho).1) λ_=>rfl
 |_=>cases ex
theorem sound(T:Tab)(g:ft):∀n,SE T g n/\EQ T g n/\SC T g n/\SD T g n
 |0=>by
  refine⟨?_,?_,?_,?_⟩
  .intro X sc N e x C h;cases h
  .intro X sc N e x C h;cases h
  .intro X sc scope N x elt I ifs y px C J;exact⟨λh=>(by cases h),λ_ _ _ h=>(by cases h)⟩
  .intro X sc N es xs ks keys pos C h;cases h
 |n+1=>by obtain⟨a,b,c,d⟩:=sound T g n;exact⟨yC a b c d,vX a b,yF a,yE (λC e=>(a C e).1) d⟩
noncomputable def isLocal(sc:Scope)(x:Str):Bool:=sc.names.lookup x==some .local||sc.names.lookup x==some .cell
noncomputable def xf:Expr->Bool
 | .ListComp .. =>true
 |_=>false
noncomputable def DZ:Expr->Bool
 | .Name .. =>true
 | .Call .. =>true
 | .Subscript .. =>true
 |_=>false
noncomputable def lL(s:Str):Bool:=s== "append"
noncomputable def lK(s:Str):Bool:=s== "extend"
noncomputable def zx:Expr->Bool
 | .Name .. =>true
 | .Call .. =>true
 | .Subscript .. =>true
 | .Constant .. =>true
 | .BinOp .. =>true
 | .Attribute .. =>true
 | .List .. =>true
 | .Tuple .. =>true
 | .Dict .. =>true
 | .UnaryOp .. =>true
 | .Compare .. =>true
 |_=>false
def qF(sc:Scope)(N:List Str):List Expr->Option (List Nat)
 |[]=>some []
 |e::r=>(qr e).bind λx=>if isLocal sc x=true then(dM N x).bind λi=>(qF sc N r).map λis=>i::is else none
def CG(f:Str->Bool)(e:Expr):Option (Expr×Expr):=(CB e).bind λq=>(EK q.1.1).bind λw=>(one q.1.2.1).bind λa=>if(f w.1.2.1&&(w.1.2.2.endLine==q.1.2.2.line)&&eM w.1.1)=true then some (w.1.1,a) else none
def qm{f:Str->Bool}{z:Expr×Expr}(h:CG f e=some z):∃m ap cp,e= .Call (.Attribute z.1 m ap) [z.2] [] cp/\(f m&&(ap.endLine==cp.line)&&eM z.1)=true:=by
 replace h:=bs h
 obtain⟨⟨⟨g,as,cp⟩,Z⟩,_,k1⟩:=h
 replace k1:=bs k1
 obtain⟨⟨⟨o,m,ap⟩,e⟩,_,k2⟩:=k1
 replace k2:=bs k2
 obtain⟨a,h1,I⟩:=k2
 replace I:=eG I
 obtain⟨Y,J⟩:=I;cases J;cases e;cases cH h1;exact⟨m,ap,cp,Z,Y⟩
mutual
noncomputable def cS(T:Tab)(n:Nat)(sc:Scope)(N:List Str)(s:Stmt):Option S:=match n with
 |0=>none
 |n+1=>match s with
  | .Assign ts e _=>(one ts).bind λt=>match t with
   | .Name x _=>if isLocal sc x=true then(dM N x).bind λi=>(cE T n sc N e).map λe'=>.set i e' else none
   | .Subscript o i _=>if iR i=true/\zx e=true then(cE T n sc N o).bind λo'=>(cE T n sc N i).bind λi'=>(cE T n sc N e).map λe'=>.setix o' i' e' else none
   | .Attribute o f _=>if zx e=true then(cE T n sc N o).bind λo'=>(cE T n sc N e).map λe'=>.setf o' f e' [] (T.ics f) else none
   | .Tuple ts _ _=>if T.calm=true then(qF sc N ts).bind λis=>(cE T n sc N e).bind λe'=>if DZ e=true then some (.unp is e') else none else none
   |_=>none
  | .Return o _=>(match o with
   |some e=>some ((cE T n sc N e).elim .stop .ret)
   |none=>none)
  | .Expr e _=>(CG lL e).elim ((CG lK e).elim ((wP "clear" e).bind λo=>(cE T n sc N o).map .clr) λq=>(cE T n sc N q.1).bind λo'=>(cE T n sc N q.2).map λe'=>.ext o' e') λq=>(cE T n sc N q.1).bind λo'=>(cE T n sc N q.2).map λe'=>.app o' e'
  | .If c a b _=>(cE T n sc N c).bind λc'=>(u7 T n sc N a).bind λa'=>(u7 T n sc N b).map λb'=>.ite c' a' b'
  | .For t it body els _=>(match els with
   |[]=>(match t with
   | .Name x _=>if isLocal sc x=true/\T.calm=true then(dM N x).bind λi=>(u7 T n sc N body).bind λb'=>(DE sc it).elim ((rng2 sc it).elim ((cE T n sc N it).map λa'=>.for_ i false a' b') λp=>(cE T n sc N p.1).bind λa'=>(cE T n sc N p.2).map λc'=>.for2 i a' c' b') λa=>(cE T n sc N a).map λa'=>.for_ i true a' b' else none
   | .Tuple ts _ _=>if T.calm=true then(qF sc N ts).bind λis=>(u7 T n sc N body).bind λb'=>(CV sc it).elim ((cE T n sc N it).map λa'=>.forU is a' b') λp=>(cE T n sc N p.1).bind λa'=>(cE T n sc N p.2).map λc'=>.forZ is a' c' b' else none
   |_=>none)
   |_=>none)
  | .While c body els _=>(match els with
   |[]=>(cE T n sc N c).bind λc'=>(u7 T n sc N body).map λb'=>.whil c' b'
   |_=>none)
  |_=>none
noncomputable def u7(T:Tab)(n:Nat)(sc:Scope)(N:List Str)(ss:List Stmt):Option (List S):=match n with
 |0=>none
 |n+1=>match ss with
  |[]=>some []
  |s::r=>(u7 T n sc N r).map λr'=>(cS T n sc N s).getD .stop::r'
end
def eN(K:aw)(Xw:Addr->L2.St->Hp->Prop)(H:Hp)(G:Nat->Addr)(st:aV)(r:R Fl)(D:Ends):Prop:=match r with
 | .ok (.nx loc) st'=>∀H' G' W',Ext H H' G G' st.length st'.length->Sim K H' G' st'->LRel K H' G' st'.length loc W'->D.nx W' H'
 | .ok (.rt d) st'=>∀H' G' v,Ext H H' G G' st.length st'.length->Sim K H' G' st'->VRel K H' G' st'.length d v->D.rt v H'
 | .ok (.ex n loc) st'=>∀H' G' W',Ext H H' G G' st.length st'.length->Sim K H' G' st'->LRel K H' G' st'.length loc W'->Xw (G' n) W' H'
 | .bad=>False
def tS(K:aw)(Xw:Addr->L2.St->Hp->Prop)(m:Loc->M Fl):TS:=λD W H=>∃G st loc,Sim K H G st/\LRel K H G st.length loc W/\eN K Xw H G st (m loc st) D
section
variable{K:aw}{Xw:Addr->L2.St->Hp->Prop}{H:Hp}{G:Nat->Addr}{st:aV}
def aU{α:Type}{m:M α}{f:α->M Fl}{D:Ends}(P:eN K Xw H G st (bg m f st0) D):∃a st1,m st0=.ok a st1/\eN K Xw H G st (f a st1) D:=by
 unfold bg at P;cases e:m st0 with
 |ok a st1=>rw[e] at P;exact⟨a,st1,rfl,P⟩
 |bad=>rw[e] at P;exact P.elim
def eN.mono{r:R Fl}{D:Ends}{H1:Hp}{G1:Nat->Addr}{st1:aV}(P:eN K Xw H G st r D)(E:Ext H H1 G G1 st.length st1.length):eN K Xw H1 G1 st1 r D:=by
 cases r with
 |ok f st2=>
  cases f with
  |rt d=>exact λH' G' v E' I h=>P H' G' v (E.trans E') I h
  |_=>exact λH' G' W' E' I h=>P H' G' W' (E.trans E') I h
 |bad=>exact P
end
def _root_.L2.PS.imp{X:Cx}{t t':TS}(h:PS X s t)(k:∀D W H,t' D W H->t D W H):PS X s t':=λpins s W H D I q=>h pins s W H D I<|k D W H q
def _root_.L2.PSs.imp{X:Cx}{t t':TS}(h:PSs X s t)(k:∀D W H,t' D W H->t D W H):PSs X s t':=λpins s W H D I q=>h pins s W H D I<|k D W H q
section
variable{T:Tab}{g:ft}{X:Cx}{sc:Scope}{N:List Str}{pos p2 p3:Pos}{Xw:Addr->L2.St->Hp->Prop}
def gy(C:Ctx T g X sc N)(h:isLocal sc x=true):L2.Loc X.env.scope x:=by show X.env.scope.names.lookup x=_\/X.env.scope.names.lookup x=_;rw[C.sc];simpa[isLocal] using h
def qS{D:Ends}(h:tS X.K Xw (exec g<|.set i e') D W H):qJ (tE X.K<|run g e') (c6 i) D W H:=by obtain⟨G,st,loc,S,L,P⟩:=h;obtain⟨d,st1,e1,P⟩:=aU P;exact bp S L e1 λH1 G1 v I Y J=>P H1 G1 _ I Y<|(L.ext I).set i J
def yI{i:Expr}(hu:X.A.units+1<cLine)(hp:iR i=true)(hn:zx e=true)(ho:PE X o (tE X.K<|run g o'))(hi:PE X i (tE X.K<|run g i'))(he:PE X e (tE X.K<|run g e')):PS X (.Assign [.Subscript o i p2] e pos) (tS X.K Xw<|exec g<|.setix o' i' e'):=by
 refine((wv he (Bx ho hi set_list (λv=>by cases i<;>first|rfl|cases hp)) (by cases e<;>rfl) (by cases e<;>rfl)).or<|yX hu ho hi he (by cases e<;>first|rfl|cases hn)).imp λD W H hp=>?_
 obtain⟨G,st,loc,S,L,P⟩:=hp;obtain⟨d,st1,e1,P⟩:=aU P;obtain⟨x,st2,e2,P⟩:=aU P;obtain⟨k,J,e3,P⟩:=aU P;obtain⟨u,st4,h,P⟩:=aU P;have sz:sizeLine=16777216:=sizeLine_eq;unfold iO at h;cases x with
 |ref n0=>
  dsimp only at h;split at h
  .rename_i xs q;split at h
   .split at h
    .rename_i j hj;cases h;refine .inl<|bp S L e1 λH1 G1 v E1 S1 r1=>bp S1 (L.ext E1) e2 λH2 G2 vx E2 S2 r2=>bp S2 ((L.ext E1).ext E2) e3 λH3 G3 vk E3 S3 r3=>?_;have Y:=r2.ext E3;have Z:=(r1.ext E2).ext E3;cases Y with
     |ref hn=>
      cases r3;obtain⟨vs,g1,g2⟩:=S3.ob _ _ q;have rr:=g2.set j Z;obtain⟨E4,S4⟩:=S3.write q rr;refine⟨_,_,_,j,rfl,rfl,g1,by rw[<-g2.length];exact hj,?_⟩
      have E5:=(E1.trans E2).trans E3;have I:Ext H3 (upd H3 (G3 n0)<|.lst<|vs.set j v) G3 G3 J.length (J.set n0<|O.lst<|xs.set j d).length:=by rw[aG];exact E4
      exact P _ G3 W (E5.trans I) S4<|((L.ext E5)).ext I
    .cases h
   .cases h
  .rename_i kvs q;split at h
   .rename_i kk hk;split at h
    .rename_i hl;cases h;refine .inr<|bp S L e1 λH1 G1 v E1 S1 r1=>bp S1 (L.ext E1) e2 λH2 G2 vx E2 S2 r2=>bp S2 ((L.ext E1).ext E2) e3 λH3 G3 vk E3 S3 r3=>?_;have Y:=r2.ext E3;have Z:=(r1.ext E2).ext E3;have hv:=oy hk r3;subst hv;cases Y with
     |ref hn=>
      obtain⟨vs,g1,g2⟩:=S3.ob _ _ q;have ll:=g2.length;obtain⟨E4,S4⟩:=S3.writeD q<|g2.put (k:=kk) Z;refine⟨_,_,rfl,xZ.k (k:=kk) g1 (by lia),?_⟩
      have E5:=(E1.trans E2).trans E3;have I:Ext H3 (upd H3 (G3 n0)<|.dK<|putK vs kk v) G3 G3 J.length (J.set n0<|O.dct<|bw kvs kk d).length:=by rw[aG];exact E4
      exact P _ G3 W (E5.trans I) S4<|((L.ext E5)).ext I
    .cases h
   .cases h
  .cases h
 |_=>cases h
def Dx(J:PE X e (tE X.K<|run g e')):PS X (.Return (some e) pos) (tS X.K Xw<|exec g<|.ret e'):=
 (Bs J).imp λD W H I=>by obtain⟨G,st,loc,S,L,P⟩:=I;obtain⟨d,st1,e1,P⟩:=aU P;exact bp S L e1 λH1 G1 v Z Y h=>P H1 G1 v Z Y h
def vZ:PS X s₀ (tS X.K Xw<|exec g .stop):=by intro pins s W H D I h;obtain⟨G,st,loc,S,L,P⟩:=h;exact False.elim P
def DC{m:Str}(hm:lL m=true)(hl:(ap.endLine==cp.line)=true)(I:starEach [e] X.env=[(false,eval e X.env)])(hb:attributeBase o m X.env (eval o X.env)=eval o X.env)(ho:PE X o (tE X.K<|run g o'))(he:PE X e (tE X.K<|run g e')):
  PS X (.Expr (.Call (.Attribute o m ap) [e] [] cp) pos) (tS X.K Xw<|exec g<|.app o' e'):=by
 have hm:m= "append":=by simpa[lL] using hm
 subst hm;refine(kz<|wE PySem.F.plainAttrs_list PySem.F.slot_list_append PySem.F.type_list_append jx ho (cf he dk I) hb (by rw[I];rfl) hl I rfl).imp λD W H hp=>?_
 obtain⟨G,st,loc,S,L,P⟩:=hp;obtain⟨x,st1,e1,P⟩:=aU P;obtain⟨u0,st0,Z,P⟩:=aU P;obtain⟨d,J,e2,P⟩:=aU P;obtain⟨u,st3,h,P⟩:=aU P;have sz:sizeLine=16777216:=sizeLine_eq;unfold append at h;split at h
 .rename_i n z1 z0;split at h
  .rename_i xs q;split at h
   .rename_i hz;cases h;simp only[jQ] at Z;split at Z
    .rename_i zs q0;cases Z;refine bp S L e1 λH1 G1 vx E1 S1 r1=>?_;cases r1 with
     |ref hn=>
      obtain⟨ws,w1,_⟩:=S1.ob _ _ q0;refine⟨.inl ⟨rfl,ws,dG.of w1⟩,bp S1 (L.ext E1) e2 λH2 G2 v E2 S2 r2=>?_⟩;obtain⟨vs,g1,g2⟩:=S2.ob _ _ q;have l:=g2.length;have rr:=g2.append<|.cons r2 .nil;obtain⟨E4,S4⟩:=S2.write q rr;rw[E2.ad n hn] at g1 E4 S4;refine⟨_,_,_,rfl,rfl,g1,by lia,?_⟩
      have E5:=E1.trans E2;have Y:Ext H2 (upd H2 (G1 n)<|.lst<|vs++[v]) G2 G2 J.length (J.set n<|O.lst<|xs++[d]).length:=by rw[aG];exact E4
      exact P _ G2 W (E5.trans Y) S4<|(L.ext E5).ext Y
    .cases Z
   .cases h
  .cases h
 .cases h
def DA{m:Str}(Z:lK m=true)(hl:(ap.endLine==cp.line)=true)(I:starEach [e] X.env=[(false,eval e X.env)])(hb:attributeBase o m X.env (eval o X.env)=eval o X.env)(ho:PE X o (tE X.K<|run g o'))(he:PE X e (tE X.K<|run g e')):
  PS X (.Expr (.Call (.Attribute o m ap) [e] [] cp) pos) (tS X.K Xw<|exec g<|.ext o' e'):=by
 have Z:m= "extend":=by simpa[lK] using Z
 subst Z;refine(kz<|wE PySem.F.plainAttrs_list PySem.F.slot_list_extend PySem.F.type_list_extend rf ho (cf he dk I) hb (by rw[I];rfl) hl I rfl).imp λD W H hp=>?_
 obtain⟨G,st,loc,S,L,P⟩:=hp;obtain⟨x,st1,e1,P⟩:=aU P;obtain⟨u0,st0,J,P⟩:=aU P;obtain⟨d,st2,e2,P⟩:=aU P;obtain⟨u,st3,h,P⟩:=aU P;have sz:sizeLine=16777216:=sizeLine_eq;cases x with
 |ref n=>
  simp only[jQ] at J;split at J
  .rename_i zs q0;cases J;refine bp S L e1 λH1 G1 vx E1 S1 r1=>?_;cases r1 with
   |ref hn=>
    obtain⟨ws,w1,_⟩:=S1.ob _ _ q0;refine⟨.inl ⟨rfl,ws,dG.of w1⟩,bp S1 (L.ext E1) e2 λH2 G2 v E2 S2 r2=>?_⟩;have E5:=E1.trans E2;unfold extend at h;split at h
    .rename_i xs qx;obtain⟨n',vs,z1,q,z2,_,g1,g2⟩:=fe S2 qx<|VRel.ref<|av hn E2.le;cases z1;cases d with
     |tup ys=>
      simp only at h;split at h
      .rename_i hz;cases h;cases r2 with
       |tup ht rt=>
        have l:=g2.length;have l2:=rt.length;obtain⟨Y,S4⟩:=S2.write q<|g2.append rt;rw[E2.ad n hn] at g1 Y S4;refine⟨_,_,_,_,rfl,rfl,g1,.inr ht,by lia,?_⟩
        have E4':=Y;exact P _ G2 W (E5.trans (by rw[aG];exact Y)) S4<|(L.ext E5).ext (by rw[aG];exact Y)
      .cases h
     |_=>cases h
    .cases h
  .cases J
 |_=>cases J
def DB(hl:(ap.endLine==cp.line)=true)(hb:attributeBase o "clear" X.env (eval o X.env)=eval o X.env)(ho:PE X o (tE X.K<|run g o')):
  PS X (.Expr (.Call (.Attribute o "clear" ap) [] [] cp) pos) (tS X.K Xw<|exec g<|.clr o'):=by
 refine((kz<|BH PySem.F.plainAttrs_list PySem.F.slot_list_clear PySem.F.type_list_clear wN ho hb hl).or<|kz<|uk ho hb hl).imp λD W H hp=>?_;obtain⟨G,st,loc,S,L,P⟩:=hp;obtain⟨x,st1,e1,P⟩:=aU P;obtain⟨u,st3,I,P⟩:=aU P;unfold iD at I;cases x with
 |ref n=>
  simp only at I;cases q:st1[n]? with
  |none=>rw[q] at I;cases I
  |some ob=>
   rw[q] at I;cases ob with
   |lst xs=>
    cases I;refine .inl<|bp S L e1 λH1 G1 vx Y J r1=>?_;cases r1 with
    |ref hn=>
     obtain⟨vs,Z,g2⟩:=J.ob _ _ q;obtain⟨E4,S4⟩:=J.write q (es:=[]) (ys:=[]) .nil;have h:Ext H1 (upd H1 (G1 n)<|.lst []) G1 G1 st1.length (st1.set n<|O.lst []).length:=by rw[aG];exact E4
     exact⟨.inl ⟨rfl,vs,dG.of Z⟩,_,vs,rfl,rfl,Z,P _ G1 W (Y.trans h) S4<|(L.ext Y).ext h⟩
   |dct kvs=>
    cases I;refine .inr<|bp S L e1 λH1 G1 vx Y J r1=>?_;cases r1 with
    |ref hn=>
     obtain⟨vs,Z,g2⟩:=J.ob _ _ q;obtain⟨E4,S4⟩:=J.writeD q (kvs':=[]) (ys:=[]) .nil;have h:Ext H1 (upd H1 (G1 n)<|.dK []) G1 G1 st1.length (st1.set n<|O.dct []).length:=by rw[aG];exact E4
     exact⟨_,vs,rfl,Z,P _ G1 W (Y.trans h) S4<|(L.ext Y).ext h⟩
   |_=>cases I
 |_=>cases I
def FC{a b:List Stmt}{a':List S}(Z:PT X c (tT X.K<|run g c'))(ha:PSs X a (tS X.K Xw<|execs g a'))(hb:PSs X b (tS X.K Xw<|execs g b')):PS X (.If c a b pos) (tS X.K Xw<|exec g<|.ite c' a' b'):=
 (DJ Z ha hb).imp λD W H Y=>by
  obtain⟨G,st,loc,S,L,P⟩:=Y;obtain⟨x,st1,e1,P⟩:=aU P;obtain⟨i,h,e2,P⟩:=aU P;obtain⟨e3,rfl⟩:=bZ e2;have:=cz e3;subst this;refine mM S L e1 λH1 G1 I J=>?_;cases i with
  |_=>exact⟨G1,h,loc,J,L.ext I,P.mono I⟩
def A4{body:List Stmt}(hp:PassesOwn (model X.prog X.w) X.A X.env X.xe)(hc:PT X c (tT X.K<|run g c'))(hb:PSs X body (tS X.K Xw<|execs g b')):PS X (.While c body [] pos) (tS X.K Xw<|exec g<|.whil c' b'):=by
 refine(wu hp hc hb).imp λD W H hp=>?_;obtain⟨G,st,loc,S,L,P⟩:=hp;refine⟨λm W2 H2=>∃G2 h loc2,Ext H H2 G G2 st.length h.length/\Sim X.K H2 G2 h/\LRel X.K H2 G2 h.length loc2 W2/\eN X.K Xw H G st (kO (run g c') (execs g b') m loc2 h) D,⟨Ci,G,st,loc,Ext.refl _ _ _,S,L,P⟩,?_⟩;rintro m W2 H2 ⟨G2,h,loc2,E2,S2,Y,P2⟩;cases m with
 |zero=>exact P2.elim
 |succ m=>
  rw[kO] at P2;obtain⟨x,st3,e3,P3⟩:=aU P2;obtain⟨b,st4,e4,P4⟩:=aU P3;obtain⟨e5,rfl⟩:=bZ e4;have:=cz e5;subst this;refine mM S2 Y e3 λH3 G3 Z S3=>?_;cases b with
  |false=>rw[if_neg bf];exact P4 H3 G3 W2 (E2.trans Z) S3<|Y.ext Z
  |true=>
   rw[if_pos rfl];refine⟨λW4 I=>∃G4 J loc5,Ext H I G G4 st.length J.length/\Sim X.K I G4 J/\LRel X.K I G4 J.length loc5 W4/\eN X.K Xw H G st _ D,λW' H' q=>⟨m,aK _,q⟩,?_⟩;rw[if_pos rfl] at P4;obtain⟨r,st6,e6,P6⟩:=aU P4;refine⟨G3,st4,loc2,S3,Y.ext Z,?_⟩;rw[e6];cases r with
   |nx loc3=>exact λI G4 W4 E4 S4 L4=>⟨G4,st6,loc3,(E2.trans Z).trans E4,S4,L4,P6⟩
   |rt d=>exact λI G4 w E4 S4 r4=>P6 I G4 w ((E2.trans Z).trans E4) S4 r4
   |ex n l=>exact λI G4 W4 E4 S4 L4=>P6 I G4 W4 ((E2.trans Z).trans E4) S4 L4
def oN:List Nat->ya
 |[]=>uJ
 |i::is=>f6 (c6 i)<|oN is
theorem iV(C:Ctx T g X sc N)(I:∀y,X.fn y=true):∀{ts:List Expr}{is:List Nat},qF sc N ts=some is->CQ X ts (oN is)/\(assignEach ts X.env).length=is.length/\(assignEach ts X.env).findIdx? (·.1)=none
 |[],is,h=>by cases h;exact⟨og,rfl,rfl⟩
 |t::r,is,h=>by
  obtain⟨x,Y,h⟩:=bs h;obtain⟨hl,h⟩:=eG h;obtain⟨i,hi,h⟩:=bs h;obtain⟨J,Z,rfl⟩:=map_some h;obtain⟨px,rfl⟩:=cw Y;obtain⟨h1,h2,h3⟩:=iV C I Z;refine⟨e8 (dW (i:=i) (by rw[C.n];exact C.nd) (by rw[C.n];exact ci hi) (gy C hl)<|.inl<|I x) h1 rfl,?_,?_⟩
  .show(assignEach r X.env).length+1=J.length+1;rw[h2]
  .show(((false,assign _ X.env)::assignEach r X.env).findIdx? (·.1))=none;rw[List.findIdx?_cons,h3];rfl
theorem lE{K:aw}{H:Hp}{G:Nat->Addr}{m:Nat}{Q:L2.St->Hp->Prop}:∀{is:List Nat}{ds:List D}{vs:List V}{loc:Loc}{W:L2.St},VRels K H G m ds vs->ds.length=is.length->LRel K H G m loc W->(∀W',LRel K H G m (j7 is ds loc) W'->Q W' H)->oN is vs W H Q
 |[],_,_,_,_,.nil,_,L,k=>⟨rfl,k _ L⟩
 |i::is,_,_,_,_,.cons (v:=v) (vs:=vs) h t,hl,L,k=>⟨v,vs,rfl,lE t (by simpa using hl) (L.set i h) k⟩
 |[],_,_,_,_,.cons _ _,hl,_,_=>by simp at hl
 |_::_,_,_,_,_,.nil,hl,_,_=>by simp at hl
def Dw{k:Nat}(C:Ctx T g X sc N)(J:T.calm=true)(I:∀y,X.fn y=true)(Y:DZ e=true)(ht:qF sc N ts=some is)(he:PE X e (tE X.K<|run g e')):PS X (.Assign [.Tuple ts k p2] e pos) (tS X.K Xw<|exec g<|.unp is e'):=by
 obtain⟨h1,h2,h3⟩:=iV C I ht;refine(wv he (qZ (C.calm J) h1 h2 h3) (by cases e<;>first|rfl|cases Y) (by cases e<;>first|rfl|cases Y)).imp λD W H hp=>?_
 obtain⟨G,st,loc,S,L,P⟩:=hp;obtain⟨d,st1,e1,P⟩:=aU P;obtain⟨ds,st2,h,P⟩:=aU P;refine bp S L e1 λH1 G1 v E1 S1 r1=>?_;unfold items? at h;split at h
 .rename_i xs es;split at h
  .rename_i Z;cases h;obtain⟨a,vs,rfl,hq,rv⟩:=r1.seq S1 es;exact⟨a,vs,rfl,hq,by rw[<-rv.length];exact Z,lE rv Z (L.ext E1) λW' L'=>P H1 G1 W' E1 S1 L'⟩
  .cases h
 .cases h
def lQ{J:It}{s:Src}{H0:Hp}{D:Ends}
  (F:cF X.K J s H G st.length)(E0:Ext H0 H G0 G st0.length st.length)(Sm:Sim X.K H G st)(L:LRel X.K H G st.length loc W)(P:eN X.K Xw H0 G0 st0 (fG (λx Y=>execs g b'<|Y.set i<|some x) s loc st) D):
  ∃Ww:Nat->Nat->L2.St->Hp->Prop,(∃m,Ww 0 m W H)/\∀k m W H,Ww k m W H->
   (J.stop k H/\D.nx W H)\/(J.go k H/\∃Nn:L2.St->Hp->Prop,(∀W' H',Nn W' H'->∃m',m'<m/\Ww (k+1) m' W' H')/\∀x H',J.yld k H x H'->c6 i x W H' λW2 H2=>tS X.K Xw (execs g b') {D with nx:=Nn,ct:=Nn,bk:=D.nx} W2 H2):=by
 refine⟨λk m W2 H2=>∃G2 h loc2,Ext H H2 G G2 st.length h.length/\Sim X.K H2 G2 h/\LRel X.K H2 G2 h.length loc2 W2/\eN X.K Xw H0 G0 st0 (mB (λx Y=>execs g b'<|Y.set i<|some x) s m k loc2 h) D,⟨dn s st+1,G,st,loc,Ext.refl _ _ _,Sm,L,P⟩,?_⟩;rintro k m W2 H2 ⟨G2,h,loc2,E2,S2,L2',P2⟩;obtain⟨c1,c2⟩:=F H2 G2 h k E2 S2;cases m with
 |zero=>exact P2.elim
 |succ m=>
  simp only[mB] at P2;cases en:iT s k h with
  |none=>rw[en] at P2;exact P2.elim
  |some ox=>
   rw[en] at P2;cases ox with
   |none=>exact .inl ⟨c1 en,P2 H2 G2 W2 (E0.trans E2) S2 L2'⟩
   |some x=>
    obtain⟨hgo,hyl⟩:=c2 x en;refine .inr ⟨hgo,λW3 Z=>∃G3 I loc3,Ext H Z G G3 st.length I.length/\Sim X.K Z G3 I/\LRel X.K Z G3 I.length loc3 W3/\eN X.K Xw H0 G0 st0 _ D,λW' H' q=>⟨m,aK _,q⟩,λv H' y=>?_⟩;obtain⟨rfl,rv⟩:=hyl v H' y;obtain⟨r,I,e3,P3⟩:=aU P2;refine⟨G2,h,loc2.set i<|some x,S2,L2'.set i rv,?_⟩;rw[e3];cases r with
    |nx loc3=>exact λZ G3 W3 E3 S3 L3=>⟨G3,I,loc3,E2.trans E3,S3,L3,P3⟩
    |rt d=>exact λZ G3 w E3 S3 r3=>P3 Z G3 w ((E0.trans E2).trans E3) S3 r3
    |ex n l=>exact λZ G3 W3 E3 S3 L3=>P3 Z G3 W3 ((E0.trans E2).trans E3) S3 L3
def kF{f:D->Loc->M Fl}(n:Nat)(st:aV)(h:∀xs,st[n]?≠some (.lst xs)):fG f (.at n) loc st=.bad:=by unfold fG;simp only[mB,sS h]
def kE{J:It}{s:Src}{H0:Hp}{D:Ends}
  (F:mi X.K J s H G st.length)(E0:Ext H0 H G0 G st0.length st.length)(Sm:Sim X.K H G st)(L:LRel X.K H G st.length loc W)(P:eN X.K Xw H0 G0 st0 (fG (λx loc'=>bg (items? is.length x) λds=>execs g b'<|j7 is ds loc') s loc st) D):
  ∃Ww:Nat->Nat->L2.St->Hp->Prop,(∃m,Ww 0 m W H)/\∀k m W H,Ww k m W H->
   (J.stop k H/\D.nx W H)\/(J.go k H/\∃Nn:L2.St->Hp->Prop,(∀W' H',Nn W' H'->∃m',m'<m/\Ww (k+1) m' W' H')/\∀x H',J.yld k H x H'->Eg X.K is.length (oN is) x W H' λW2 Z=>tS X.K Xw (execs g b') {D with nx:=Nn,ct:=Nn,bk:=D.nx} W2 Z):=by
 refine⟨λk m W2 Z=>∃G2 h loc2,Ext H Z G G2 st.length h.length/\Sim X.K Z G2 h/\LRel X.K Z G2 h.length loc2 W2/\eN X.K Xw H0 G0 st0 (mB _ s m k loc2 h) D,⟨dn s st+1,G,st,loc,Ext.refl _ _ _,Sm,L,P⟩,?_⟩;rintro k m W2 Z ⟨G2,h,loc2,E2,S2,L2',P2⟩;obtain⟨c1,c2⟩:=F Z G2 h k E2 S2;cases m with
 |zero=>exact P2.elim
 |succ m=>
  simp only[mB] at P2;cases en:iT s k h with
  |none=>rw[en] at P2;exact P2.elim
  |some ox=>
   rw[en] at P2;cases ox with
   |none=>exact .inl ⟨c1 en,P2 Z G2 W2 (E0.trans E2) S2 L2'⟩
   |some x=>
    obtain⟨hgo,hyl⟩:=c2 x en;refine .inr ⟨hgo,λW3 Y=>∃G3 I loc3,Ext H Y G G3 st.length I.length/\Sim X.K Y G3 I/\LRel X.K Y G3 I.length loc3 W3/\eN X.K Xw H0 G0 st0 _ D,λW' H' q=>⟨m,aK _,q⟩,λv H' y=>?_⟩;obtain⟨EH,SH,rv⟩:=hyl v H' y;have EH2:=E2.trans EH;have L3':=L2'.ext EH;obtain⟨r,I,e3,P3⟩:=aU P2;unfold items? at e3;cases es:bz h x with
    |none=>simp only[bg,es] at e3;cases e3
    |some xs=>
     by_cases hl:xs.length=is.length
     .have e4:execs g b' (j7 is xs loc2) h=.ok r I:=by simp only[bg,es,if_pos hl] at e3;exact e3
      obtain⟨a,vs,rfl,hq,rw'⟩:=rv.seq SH es;refine⟨a,vs,rfl,hq,by rw[<-rw'.length];exact hl,lE rw' hl L3' λW' L'=>⟨G2,h,j7 is xs loc2,SH,L',?_⟩⟩
      rw[e4];cases r with
      |nx loc3=>exact λY G3 W3 E3 S3 L3=>⟨G3,I,loc3,EH2.trans E3,S3,L3,P3⟩
      |rt d=>exact λY G3 w E3 S3 r3=>P3 Y G3 w ((E0.trans EH2).trans E3) S3 r3
      |ex n l=>exact λY G3 W3 E3 S3 L3=>P3 Y G3 W3 ((E0.trans EH2).trans E3) S3 L3
     .simp only[bg,es,if_neg hl] at e3;cases e3
def qa{f:D->Loc->M Fl}{x y:D}(h:bz st x=none\/bz st y=none):fG f (.zp x y) loc st=.bad:=by simp only[fG,mB,CT 0 h]
def Bd(hp:PassesOwn (model X.prog X.w) X.A X.env X.xe)(C:Ctx T g X sc N)(Y:T.calm=true){body:List Stmt}{p3:Pos}(hfn:∀y,X.fn y=true)(ht:qF sc N ts=some is)(hg:bE sc "zip"=true)(J:starEach [a,b] X.env=(false,eval a X.env)::starEach [b] X.env)(h:starEach [b] X.env=[(false,eval b X.env)])
  (ha:PE X a (tE X.K<|run g a1))(hc:PE X b (tE X.K<|run g a2))(hb:PSs X body (tS X.K Xw<|execs g b')):
  PS X (.For (.Tuple ts tk p2) (.Call (.Name "zip" p3) [a,b] [] p4) body [] pos) (tS X.K Xw<|exec g<|.forZ is a1 a2 b'):=by
 obtain⟨h1,h2,h3⟩:=iV C hfn ht;refine(lq hp (C.calm Y) (Bw (fg C hg) (C.blt _ (by decide+kernel)) (cf ha (cf hc dk h) J) J h) (qZ (C.calm Y) h1 h2 h3) hb<|λ_=>rfl).imp λD W H hp=>?_
 obtain⟨G,st,loc,S,L,P⟩:=hp;obtain⟨d,st1,e1,P⟩:=aU P;obtain⟨d2,st2,e2,P⟩:=aU P;obtain⟨s,I,e3,P⟩:=aU P;obtain⟨e4,rfl⟩:=bZ e3;refine bp S L e1 λH1 G1 v E1 S1 r1=>bp S1 (L.ext E1) e2 λH2 G2 v2 Z S2 r2=>?_;cases e4;cases q1:bz I d with
 |none=>rw[qa<|.inl q1] at P;exact P.elim
 |some xs=>
  cases q2:bz I d2 with
  |none=>rw[qa<|.inr q2] at P;exact P.elim
  |some ys=>obtain⟨_,vs,z,h1,_⟩:=(r1.ext Z).seqB S2 q1;subst z;obtain⟨_,ws,z,h2,_⟩:=r2.seqB S2 q2;subst z;exact⟨_,_,_,_,rfl,⟨vs,h1⟩,⟨ws,h2⟩,kE (mi.zp (r1.ext Z) r2) (E1.trans Z) S2 (L.ext<|E1.trans Z) P⟩
def Dz(hp:PassesOwn (model X.prog X.w) X.A X.env X.xe)(C:Ctx T g X sc N)(hcm:T.calm=true){body:List Stmt}(hx:isLocal sc x=true)(hfn:∀y,X.fn y=true)(hi:dM N x=some i)(ha:PE X it (tE X.K<|run g a'))(hf:∀v,foldedSetIterable it X.env v=pure v)(hb:PSs X body (tS X.K Xw<|execs g b')):
  PS X (.For (.Name x p2) it body [] pos) (tS X.K Xw<|exec g<|.for_ i false a' b'):=by
 refine(lq hp (C.calm hcm) (jv ha) (dW (i:=i) (by rw[C.n];exact C.nd) (by rw[C.n];exact ci hi) (gy C hx)<|.inl<|hfn x) hb hf).imp λD W H hp=>?_
 obtain⟨G,st,loc,S,L,P⟩:=hp;obtain⟨d,st1,e1,P⟩:=aU P;obtain⟨s,I,e2,P⟩:=aU P;obtain⟨Y,rfl⟩:=bZ e2;refine bp S L e1 λH1 G1 v J Z r1=>?_;cases r1 with
 |tup h r=>cases Y;exact⟨_,rfl,.inr ⟨⟨_,h⟩,lQ (cF.tup h r) J Z (L.ext J) P⟩⟩
 |fl h r=>cases Y;exact⟨_,rfl,.inl ⟨⟨_,h.sql⟩,lQ (cF.fl h r) J Z (L.ext J) P⟩⟩
 | @ref n hn=>
  cases Y;cases q:I[n]? with
  |none=>
   rw[kF n I (λxs z=>by rw[q] at z;cases z)] at P
   exact P.elim
  |some o=>
   cases o with
   |lst xs=>obtain⟨vs,h1,_⟩:=Z.ob n _ q;exact⟨_,rfl,.inl ⟨⟨vs,dG.of h1⟩,lQ (cF.ref hn) J Z (L.ext J) P⟩⟩
   |_=>
    rw[kF n I (λxs z=>by rw[q] at z;cases z)] at P
    exact P.elim
 |_=>cases Y
def Be(hp:PassesOwn (model X.prog X.w) X.A X.env X.xe)(C:Ctx T g X sc N)(Y:T.calm=true){body:List Stmt}(hfn:∀y,X.fn y=true)(ht:qF sc N ts=some is)(ha:PE X it (tE X.K<|run g a'))(hf:∀v,foldedSetIterable it X.env v=pure v)(hb:PSs X body (tS X.K Xw<|execs g b')):
  PS X (.For (.Tuple ts tk p2) it body [] pos) (tS X.K Xw<|exec g<|.forU is a' b'):=by
 obtain⟨h1,h2,h3⟩:=iV C hfn ht;refine(lq hp (C.calm Y) (jv ha) (qZ (C.calm Y) h1 h2 h3) hb hf).imp λD W H hp=>?_;obtain⟨G,st,loc,S,L,P⟩:=hp;obtain⟨d,st1,e1,P⟩:=aU P;obtain⟨s,I,e2,P⟩:=aU P;obtain⟨Z,rfl⟩:=bZ e2;refine bp S L e1 λH1 G1 v J S1 r1=>?_;cases r1 with
 |tup h r=>cases Z;exact⟨_,rfl,.inr ⟨⟨_,h⟩,kE (cF.toG<|cF.tup h r) J S1 (L.ext J) P⟩⟩
 |fl h r=>cases Z;exact⟨_,rfl,.inl ⟨⟨_,h.sql⟩,kE (cF.toG<|cF.fl h r) J S1 (L.ext J) P⟩⟩
 | @ref n hn=>
  cases Z;cases q:I[n]? with
  |none=>
   rw[kF n I (λxs z=>by rw[q] at z;cases z)] at P
   exact P.elim
  |some o=>
   cases o with
   |lst xs=>obtain⟨vs,h1,_⟩:=S1.ob n _ q;exact⟨_,rfl,.inl ⟨⟨vs,dG.of h1⟩,kE (cF.toG<|cF.ref hn) J S1 (L.ext J) P⟩⟩
   |_=>
    rw[kF n I (λxs z=>by rw[q] at z;cases z)] at P
    exact P.elim
 |_=>cases Z
def Bf(J:PassesOwn (model X.prog X.w) X.A X.env X.xe)(C:Ctx T g X sc N)(hcm:T.calm=true){body:List Stmt}(hx:isLocal sc x=true)(Z:∀y,X.fn y=true)(hi:dM N x=some i)(hg:bE sc "range"=true)(h:starEach [a] X.env=[(false,eval a X.env)])(ha:PE X a (tE X.K<|run g a'))(hb:PSs X body (tS X.K Xw<|execs g b')):
  PS X (.For (.Name x p2) (.Call (.Name "range" p3) [a] [] p4) body [] pos) (tS X.K Xw<|exec g<|.for_ i true a' b'):=by
 have Y:Gl X "range":=by show X.env.scope.names.lookup _=some .globalImplicit;rw[C.sc];simpa[bE] using hg
 refine(lq J (C.calm hcm) (mX Y (C.blt _ (by decide+kernel)) (cf ha dk h) h) (dW (i:=i) (by rw[C.n];exact C.nd) (by rw[C.n];exact ci hi) (gy C hx)<|.inl<|Z x) hb).imp λD W H J=>?_
 obtain⟨G,st,loc,S,L,P⟩:=J;obtain⟨d,st1,e1,P⟩:=aU P;obtain⟨s,st2,e2,P⟩:=aU P;obtain⟨I,rfl⟩:=bZ e2;refine bp S L e1 λH1 G1 v E1 S1 r1=>?_;cases r1 with
 |int j=>
  simp only[cu] at I;split at I
  .rename_i hj;cases I;exact⟨j,rfl,by lia,by omega,lQ cF.rng E1 S1 (L.ext E1) P⟩
  .cases I
 |_=>cases I
def yM(Y:PassesOwn (model X.prog X.w) X.A X.env X.xe)(C:Ctx T g X sc N)(hcm:T.calm=true){body:List Stmt}(hx:isLocal sc x=true)(Z:∀y,X.fn y=true)(hi:dM N x=some i)(hg:bE sc "range"=true)(J:starEach [a,b] X.env=(false,eval a X.env)::starEach [b] X.env)(h:starEach [b] X.env=[(false,eval b X.env)])
  (ha:PE X a (tE X.K<|run g a'))(hc:PE X b (tE X.K<|run g c'))(hb:PSs X body (tS X.K Xw<|execs g b')):PS X (.For (.Name x p2) (.Call (.Name "range" p3) [a,b] [] p4) body [] pos) (tS X.K Xw<|exec g<|.for2 i a' c' b'):=by
 refine(lq Y (C.calm hcm) (uh (fg C hg) (C.blt _ (by decide+kernel)) (cf ha (cf hc dk h) J) (by rw[J,h]) h) (dW (i:=i) (by rw[C.n];exact C.nd) (by rw[C.n];exact ci hi) (gy C hx)<|.inl<|Z x) hb).imp λD W H Y=>?_
 obtain⟨G,st,loc,S,L,P⟩:=Y;obtain⟨d,st1,e1,P⟩:=aU P;obtain⟨d2,st2,e2,P⟩:=aU P;obtain⟨s,st3,e3,P⟩:=aU P;obtain⟨I,rfl⟩:=bZ e3;refine bp S L e1 λH1 G1 v E1 S1 r1=>bp S1 (L.ext E1) e2 λH2 G2 v2 E2 S2 r2=>?_;unfold iN at I;split at I
 .split at I
  .rename_i hj;cases I;cases r1;cases r2;exact⟨_,_,rfl,⟨by omega,by omega,by omega,by omega⟩,lQ cF.rng2 (E1.trans E2) S2 (L.ext<|E1.trans E2) P⟩
  .cases I
 .cases I
end
section
variable{T:Tab}{g:ft}{X:Cx}{sc:Scope}{N:List Str}{pos p2:Pos}{Xw:Addr->L2.St->Hp->Prop}
def Cc{c:Str}{fs:List (Str×D)}(C:Ctx T g X sc N)(S:Sim X.K H G st)(q:st[n]? =some (.ins c fs))(hc:c∈T.ics f)(hl:fs.length<900)(r:VRel X.K H G st.length d v):
  ∃h dx vs,H (G n)=some (.ins h dx vs)/\Cls X.K h/\fZ X.K h f/\vs.length<1000/\Ext H (upd H (G n)<|.ins h dx<|eF f v vs) G G st.length (st.set n<|O.ins c<|putD f d fs).length/\Sim X.K (upd H (G n)<|.ins h dx<|eF f v vs) G (st.set n<|.ins c<|putD f d fs):=by
 obtain⟨Y,hi,rfl,hf⟩:=sY hc;obtain⟨h,J,cl,na,_⟩:=C.icl Y hi;obtain⟨C1,dx,vs,n1,h1,I,h3⟩:=S.ob n _ q;rw[J] at n1;cases n1;have lw:=I.length
 have X0:Ext0 H (upd H (G n)<|.ins h dx<|eF f v vs) G G st.length st.length:=by
  refine⟨af _,λ_ _=>rfl,λb zs z=>?_,λb ob w z=>?_⟩
  .rw[aq<|cg z h1 (by intro y;cases y)];exact z
  .rw[aq<|cg z h1 (by intro y;cases y)];exact z
 have Z:(putD f d fs).length<=900:=by
  have:=gH f v vs;have:=(I.put (f:=f) r).length
  lia
 obtain⟨E4,S4⟩:=S.put (ho:= .ins h dx<|eF f v vs) (o':= .ins Y.x<|putD f d fs) q ⟨h,dx,eF f v vs,J,aT,(I.put r).ext0 X0,Z⟩;exact⟨h,dx,vs,h1,cl,na f hf,by lia,by rw[aG];exact E4,S4⟩
def A8(C:Ctx T g X sc N)(hn:zx e=true)(ho:PE X o (tE X.K<|run g o'))(he:PE X e (tE X.K<|run g e')):PS X (.Assign [.Attribute o f p2] e pos) (tS X.K Xw<|exec g<|.setf o' f e' []<|T.ics f):=by
 refine(Bu ho he (by cases e<;>first|rfl|cases hn)).imp λD W H hp=>?_
 obtain⟨G,st,loc,S,L,P⟩:=hp;obtain⟨d,st1,e1,P⟩:=aU P;obtain⟨x,st2,e2,P⟩:=aU P;obtain⟨u,st3,h,P⟩:=aU P;unfold pw at h;cases x with
 |ref n=>
  dsimp only at h;split at h
  .rename_i c fs q;split at h
   .rename_i J;cases h;refine bp S L e1 λH1 G1 v E1 S1 r1=>bp S1 (L.ext E1) e2 λH2 G2 vx Z S2 r2=>?_;have I:=E1.trans Z;cases r2 with
    |ref hnn=>obtain⟨C0,dx,vs,h1,cl,na,lz,Y,S4⟩:=Cc C S2 q J.2 J.1<|r1.ext Z;exact⟨_,C0,dx,vs,rfl,h1,cl,na,lz,P _ G2 W (I.trans Y) S4<|L.ext<|I.trans Y⟩
   .cases h
  .cases h
 |_=>cases h
end
abbrev qp(X:Cx):Prop:=X.stack=X.env::X.outer/\X.env.frame=some X.env.locals
def SS(T:Tab)(g:ft)(n:Nat):Prop:=∀{X:Cx}{sc:Scope}{N:List Str}{s:Stmt}{s':S}{Xw:Addr->L2.St->Hp->Prop},Ctx T g X sc N->(∀y,X.fn y=true)->PassesOwn (model X.prog X.w) X.A X.env X.xe->qp X->cS T n sc N s=some s'->PS X s (tS X.K Xw<|exec g s')
def Fb(T:Tab)(g:ft)(n:Nat):Prop:=∀{X:Cx}{sc:Scope}{N:List Str}{s:List Stmt}{s':List S}{Xw:Addr->L2.St->Hp->Prop},Ctx T g X sc N->(∀y,X.fn y=true)->PassesOwn (model X.prog X.w) X.A X.env X.xe->qp X->u7 T n sc N s=some s'->PSs X s (tS X.K Xw<|execs g s')
def vT{T:Tab}(h1:SS T g n)(Z:Fb T g n):Fb T g (n+1):=by
 intro X sc N s s' Xw C Y I J h;cases s with
 |nil=>cases h;refine yV.imp λD W H I=>?_;obtain⟨G,st,loc,S,L,P⟩:=I;exact P H G W (Ext.refl _ _ _) S L
 |cons a r=>
  replace h:=map_some h
  obtain⟨r',er,rfl⟩:=h
  have ea:PS X a (tS X.K Xw<|exec g<|(cS T n sc N a).getD .stop):=by
   cases q:cS T n sc N a with
   |none=>exact vZ
   |some a'=>exact h1 C Y I J q
  refine(pF ea<|Z (Xw:=Xw) C Y I J er).imp λD W H I=>?_;obtain⟨G,st,loc,S,L,P⟩:=I
  replace P:=aU P
  obtain⟨f,st1,e1,P⟩:=P;refine⟨G,st,loc,S,L,?_⟩;rw[e1];cases f with
  |nx loc1=>exact λH1 G1 W1 E1 S1 L1=>⟨G1,st1,loc1,S1,L1,P.mono E1⟩
  |_=>exact P
def vP{T:Tab}(h:xf e=false)(I:cE T n sc N e=some e')(o:Option Expr)(l:Nat)(env:Env)(ho:o=none\/∃x p,o=some (.Name x p)):swapsWith e o l env=pure false:=by
 cases n with
 |zero=>cases I
 |succ n=>
  rcases ho with rfl|⟨x,p,rfl⟩
  .cases e<;>first|rfl|trivial|cases h
  .cases e<;>first|rfl|trivial|cases h
def yO{T:Tab}(h2:Fb T g n):SS T g (n+1):=by
 intro X sc N s s' Xw C Y hp J h;have snd:=sound T g n;have I:=λ{e:Expr}{e':Ex}(q:cE T n sc N e=some e')=>snd.1 C q;cases s with
 |Assign ts e _=>
  replace h:=bs h
  obtain⟨t,ht,h⟩:=h;cases cH ht;clear ht;cases t with
  |Name x px=>
   replace h:=eG h
   obtain⟨hl,h⟩:=h
   replace h:=bs h
   obtain⟨i,hi,h⟩:=h
   replace h:=map_some h
   obtain⟨e',hee,rfl⟩:=h;have k1:X.N[i]? =some x:=by rw[C.n];exact ci hi
   by_cases hk:xf e=true
   .cases e with
    |ListComp elt gens scope pos=>
     cases n with
     |zero=>cases hee
     |succ m=>
      exact tV (sound T g m).1 (sound T g m).2.2.1 C hee (λy py it ifs e Z hc hd=>by subst e;exact(f9.ps C Z hc hd k1 (gy C hl)<|.inl<|Y _).imp λD W H q=>qS q) λy1 y2 p1 p2 k pt it ifs e Z hc hd=>by subst e;exact(iH.ps C Z hc hd k1 (gy C hl)<|.inl<|Y _).imp λD W H q=>qS q
    |_=>cases hk
   .exact(n_ (by rw[C.n];exact C.nd) k1 (gy C hl) (I hee).1 (vP (by simpa using hk) hee _ _ _<|.inr ⟨_,_,rfl⟩)<|.inl<|Y _).imp λD W H q=>qS q
  |Subscript o i _=>
   replace h:=eG h
   obtain⟨hp',h⟩:=h
   replace h:=bs h
   obtain⟨o',a1,h⟩:=h
   replace h:=bs h
   obtain⟨i',a2,h⟩:=h
   replace h:=map_some h
   obtain⟨e',a3,rfl⟩:=h;exact yI (by have:=C.un;lia) hp'.1 hp'.2 (I a1).1 (I a2).1 (I a3).1
  |Attribute o f _=>
   replace h:=eG h
   obtain⟨hnc,h⟩:=h
   replace h:=bs h
   obtain⟨o',a1,h⟩:=h
   replace h:=map_some h
   obtain⟨e',a2,rfl⟩:=h;exact A8 C hnc (I a1).1 (I a2).1
  |Tuple ts _ _=>
   replace h:=eG h
   obtain⟨Z,h⟩:=h
   replace h:=bs h
   obtain⟨is,ht,h⟩:=h
   replace h:=bs h
   obtain⟨e',a2,h⟩:=h
   replace h:=eG h
   obtain⟨hk,h⟩:=h;cases h;exact Dw C Z Y hk ht (I a2).1
  |_=>cases h
 |Return o _=>
  cases o with
  |none=>cases h
  |some e=>
   cases h;cases q:cE T n sc N e with
   |none=>exact vZ
   |some e'=>exact Dx (I q).1
 |Expr e _=>
  replace h:=om h
  rcases h with⟨z,hq,h⟩|⟨_,h⟩
  .replace h:=bs h
   obtain⟨o',a1,h⟩:=h
   replace h:=map_some h
   obtain⟨e',a2,rfl⟩:=h;obtain⟨m,ap,cp,rfl,hm⟩:=qm hq;simp only[and_eq_true] at hm;exact DC hm.1.1 hm.1.2 (cP a2 [] _) (dC hm.2 _ _) (I a1).1 (I a2).1
  replace h:=om h
  rcases h with⟨z,hq,h⟩|⟨_,h⟩
  .replace h:=bs h
   obtain⟨o',a1,h⟩:=h
   replace h:=map_some h
   obtain⟨e',a2,rfl⟩:=h;obtain⟨m,ap,cp,rfl,hm⟩:=qm hq;simp only[and_eq_true] at hm;exact DA hm.1.1 hm.1.2 (cP a2 [] _) (dC hm.2 _ _) (I a1).1 (I a2).1
  .replace h:=bs h
   obtain⟨o,hq,h⟩:=h
   replace h:=map_some h
   obtain⟨o',a1,rfl⟩:=h;obtain⟨ap,cp,rfl,h1,h2⟩:=iW hq;exact DB h1 (dC h2 _ _) (I a1).1
 |If c a b _=>
  replace h:=bs h
  obtain⟨c',a1,h⟩:=h
  replace h:=bs h
  obtain⟨a',a2,h⟩:=h
  replace h:=map_some h
  obtain⟨b',a3,rfl⟩:=h;exact FC (I a1).2 (h2 (Xw:=Xw) C Y hp J a2)<|h2 (Xw:=Xw) C Y hp J a3
 |For t it body els _=>
  cases els with
  |cons=>cases h
  |nil=>
   cases t with
   |Name x _=>
    replace h:=eG h
    obtain⟨hl,h⟩:=h
    replace h:=bs h
    obtain⟨i,hi,h⟩:=h
    replace h:=bs h
    obtain⟨b',hb,h⟩:=h
    replace h:=om h
    rcases h with⟨a,ha,h⟩|⟨_,h⟩
    .replace h:=map_some h
     obtain⟨a',q,rfl⟩:=h;obtain⟨hg,_,_,rfl⟩:=wj ha;exact Bf hp C hl.2 hl.1 Y hi hg (cP q [] _) (I q).1<|h2 (Xw:=Xw) C Y hp J hb
    replace h:=om h
    rcases h with⟨z,hz,h⟩|⟨_,h⟩
    .replace h:=bs h
     obtain⟨a',q1,h⟩:=h
     replace h:=map_some h
     obtain⟨c',q2,rfl⟩:=h;obtain⟨hg,_,_,rfl⟩:=wk hz;exact yM hp C hl.2 hl.1 Y hi hg (cP q1 _ _) (cP q2 [] _) (I q1).1 (I q2).1<|h2 (Xw:=Xw) C Y hp J hb
    .replace h:=map_some h
     obtain⟨a',q,rfl⟩:=h;exact Dz hp C hl.2 hl.1 Y hi (I q).1 (ia q _)<|h2 (Xw:=Xw) C Y hp J hb
   |Tuple ts _ _=>
    replace h:=eG h
    obtain⟨Z,h⟩:=h
    replace h:=bs h
    obtain⟨is,ht,h⟩:=h
    replace h:=bs h
    obtain⟨b',hb,h⟩:=h
    replace h:=om h
    rcases h with⟨z,hzi,h⟩|⟨_,h⟩
    .replace h:=bs h
     obtain⟨a',q1,h⟩:=h
     replace h:=map_some h
     obtain⟨c',q2,rfl⟩:=h;obtain⟨hg,_,_,rfl⟩:=ve hzi;exact Bd hp C Z Y ht hg (cP q1 _ _) (cP q2 [] _) (I q1).1 (I q2).1<|h2 (Xw:=Xw) C Y hp J hb
    .replace h:=map_some h
     obtain⟨a',q,rfl⟩:=h;exact Be hp C Z Y ht (I q).1 (ia q _)<|h2 (Xw:=Xw) C Y hp J hb
   |_=>cases h
 |While c body els _=>
  cases els with
  |cons=>cases h
  |nil=>
   replace h:=bs h
   obtain⟨c',hc,h⟩:=h
   replace h:=map_some h
   obtain⟨b',hb,rfl⟩:=h;exact A4 hp (I hc).2<|h2 (Xw:=Xw) C Y hp J hb
 |_=>cases h
theorem jl(T:Tab)(g:ft):∀n,SS T g n/\Fb T g n
 |0=>⟨λC Y J I h=>(by cases h),λC Y J I h=>(by cases h)⟩
 |n+1=>⟨yO (jl T g n).2,vT (jl T g n).1 (jl T g n).2⟩
structure Rec where
 name:Str
 fname:Str
 qual:Str
 ps:List Str
 N:List Str
 st:Stmt
 fn:Fn
structure Chk(T:Tab)(r:Rec):Prop where
 sc:FnScope r.N r.ps (aX r.st)
 nm:∀x∈r.N,(x==("__debug__":Str))=false/\(x==("__classdict__":Str))=false
 cc:u7 T 100 (aX r.st) r.N (cx r.st)=some r.fn.body
 ar:r.fn.ar=r.ps.length
 nl:r.fn.nl=r.N.length
structure Lnk(K:aw)(r:Rec)(a:Addr)(fd:FuncData):Prop where
 f:Fun K r.fname r.qual r.st a fd
 b:Binds K fd r.ps []
def GT{K:aw}{mg:Str->Option Value}{qual:Str}{st:Stmt}{f:Addr}{fd:FuncData}{ps:List Str}{k:Nat}{sp:Sp}(F:Fun K x qual st f fd)(S:FnScope N ps (aX st))(len:∀vs H Q E,sp vs H Q E->vs.length=ps.length)
  (I:∀(h:Value)(A:Around)(outer:List Env)(s:Shared)(H:Hp)(vs:List V)(Q:VK)(E:XK),Room k (A.deeper<|envOfC qual (aX st) s.heap.objs.size f h)->sp vs H Q E->
   ∃t,PSs (lY (oY P w) P w K mg base N qual (aX st) f h A outer s H E) (cx st) t/\t {nx:=λ_ H'=>Q .non H',rt:=Q} (start N vs) H):FnOk P w K mg base (oY P w) (k+1) f fd ps sp:=by
 obtain⟨oc,od,kV,doc,pm,an,h,ct,Z,rfl,lk,Y⟩:=F.ex;exact AA lk Y S len λA outer s H vs Q E hr J=>I h A outer s H vs Q E hr J
theorem d7{bx:List Rec}{T:Tab}{r:Rec}(J:bx[i]? =some r)(I:Chk T r):∀(n:Nat)(ds:List D)(st:aV),ds.length≠r.ps.length->calls (bx.map (·.fn)) n i ds st=.bad
 |0,_,_,_=>rfl
 |n+1,ds,st,h=>by
  have e:(bx.map (·.fn))[i]? =some r.fn:=by simp_all
  simp only[calls,e,tU];rw[if_neg (by rw[I.ar];exact h)]
  rfl
def mQ{K:aw}{ds:List D}(r:VRels K H G m ds vs)(N:List Str)(k:Nat)(I:k=N.length):LRel K H G m (ds.map some++replicate (k - ds.length) none) (L2.start N vs):=by
 have l:=r.length;refine⟨by simp[L2.start,l,I],λi d e=>?_⟩
 by_cases hi:i<ds.length
 .rw[aI (by simpa using hi),az] at e
  cases q:ds[i]? with
  |none=>rw[q] at e;cases e
  |some d'=>
   rw[q] at e;have e':d'=d:=by simpa using e
   subst e';obtain⟨v,h,rv⟩:=r.get q;refine⟨v,?_,rv⟩;unfold L2.start;rw[aI (by simp_all),az,h]
   rfl
 .rw[aM (by simpa using hi),List.getElem?_replicate] at e
  simp_all
structure Facts(P:Program)(w:World)(K:aw)(mg:Str->Option Value)(T:Tab)(bx:List Rec):Prop where
 chk:∀r∈bx,Chk T r
 calm:T.calm=true
 fns:∀(i:Nat)(f:Str),T.fns[i]? =some f->(f==("__debug__":Str))=false/\∃r a fd,bx[i]? =some r/\Lnk K r a fd/\mg f=some (.ref a)
 csts:∀x d,T.csts.lookup x=some d->(x==("__debug__":Str))=false/\∃u v,mg x=some u/\RelV v u/\∀H G m,VRel K H G m d v
 blt:∀x∈u8,mg x=none
 icl:∀c∈T.icl,∃C,PySem.W.nsIn K mainGlobals c.x=some (some<|.ref C)/\Cls K C/\(∀f∈c.flds,fZ K C f)/\(∀(m:Str)(j:Nat),(m,j)∈c.mts->∃r a fd,bx[j]? =some r/\Lnk K r a fd/\Meth K C m a)
 mks:∀(x:Str)(j:Nat),(x,j)∈T.mks->(x==("__debug__":Str))=false/\∃C r a fd,bx[j]? =some r/\Lnk K r a fd/\PySem.W.nsIn K mainGlobals x=some (some<|.ref C)/\mg x=some (.ref C)/\Mk K C a
 isks:∀t,t∈T.isks->(t.1==("__debug__":Str))=false/\∃B C,PySem.W.nsIn K mainGlobals t.1=some (some<|.ref B)/\mg t.1=some (.ref B)/\PySem.W.nsIn K mainGlobals t.2=some (some<|.ref C)/\Cls K C/\PySem.W.findIn K (.ref C) "__class__"=some (some<|.builtin "object.__class__")/\
  PySem.W.specialIn K (.builtin "object.__class__") "__get__"=some (some<|.builtin "getset_descriptor.__get__")/\PySem.W.takesIn K (.builtin "object.__class__")=some true/\PySem.W.mroIn K C (.type "object")=some true/\PySem.W.kitOne K (.ref C) (.ref B)=some true
theorem ib{K:aw}{mg:Str->Option Value}{T:Tab}{bx:List Rec}(Z:Facts P w K mg T bx):
  ∀(n i:Nat)(r:Rec)(a:Addr)(fd:FuncData),bx[i]? =some r->Lnk K r a fd->FnOk P w K mg base (oY P w) (2*n) a fd r.ps (E7 K r.ps.length<|calls (bx.map (·.fn)) n i)
 |0,i,r,a,fd,hr,L=>⟨λvs H Q E h=>h.1,λA outer s H args us vs Q E _ _ _ _ h=>by obtain⟨_,G,st,ds,_,_,q⟩:=h;exact False.elim q⟩
 |n+1,i,r,a,fd,hr,L=>by
  have c:=Z.chk r<|ah hr;refine GT (k:=2*n+1) L.f c.sc (λvs H Q E h=>h.1)<|λcdv A outer s H vs Q E J h=>?_;obtain⟨hlen,G,st,ds,S,rv,q⟩:=h;have un:=J.un
  have C:Ctx T (calls (bx.map (·.fn)) n) (lY (oY P w) P w K mg base r.N r.qual (aX r.st) a cdv A outer s H E) (aX r.st) r.N:=by
   refine⟨rfl,rfl,c.sc.nd,c.nm,λ_=>rfl,?_,λj f hj=>?_,Z.csts,Z.blt,λc hc=>?_,λx j hj=>?_,Z.isks⟩
   .show(A.deeper _).units+100<cLine
    lia
   .obtain⟨hd,r2,a2,fd2,I,Y,hm⟩:=Z.fns j f hj;exact⟨hd,a2,fd2,r2.ps,2*n,hm,Y.f.kp,Y.b,J.mono<|le_succ _,d7 I (Z.chk r2<|ah I) n,ib Z n j r2 a2 fd2 I Y⟩
   .obtain⟨C0,q1,q2,q3,q4⟩:=Z.icl c hc;refine⟨C0,q1,q2,q3,λm j hj=>?_⟩;obtain⟨r2,a2,fd2,I,Y,M⟩:=q4 m j hj;exact⟨a2,fd2,r2.ps,2*n,M,Y.b,J.mono<|le_succ _,d7 I (Z.chk r2<|ah I) n,ib Z n j r2 a2 fd2 I Y⟩
   .obtain⟨hd,C0,r2,a2,fd2,I,Y,q1,q2,q3⟩:=Z.mks x j hj;exact⟨hd,C0,a2,fd2,r2.ps,2*n,q1,q2,q3,Y.b,J,d7 I (Z.chk r2<|ah I) n,ib Z n j r2 a2 fd2 I Y⟩
  refine⟨_,(jl _ _ 100).2 (Xw:=λa _ H'=>E (.ref a) none H') C (λ_=>rfl) PassesOwn.leaving ⟨rfl,rfl⟩ c.cc,G,st,ds.map some++replicate (r.fn.nl - ds.length) none,S,mQ rv _ _ c.nl,?_⟩;have e:(bx.map (·.fn))[i]? =some r.fn:=by rw[az,hr];rfl
  have hd:ds.length=r.fn.ar:=by rw[rv.length,hlen,c.ar]
  simp only[calls,e,tU] at q;rw[if_pos hd] at q;unfold bg at q;cases e1:execs (calls (bx.map (·.fn)) n) r.fn.body (ds.map some++replicate (r.fn.nl - ds.length) none) st with
  |bad=>rw[e1] at q;exact q.elim
  |ok f st1=>
   rw[e1] at q;cases f with
   |nx loc=>exact λH1 G1 W1 E1 S1 L1=>q H1 G1 .non E1 S1 .non
   |rt d=>exact q
   |ex m l=>exact λH1 G1 W1 E1 S1 L1=>q H1 G1 E1 S1
theorem pQ{K:aw}{H:Hp}{G:Nat->Addr}{m:Nat}:∀ns:List Int,VRels K H G m (ns.map .int) (ns.map V.int)
 |[]=>.nil
 |n::ns=>.cons (.int n)<|pQ ns
noncomputable def uF(o:Option (Option Value))(s:String):Bool:=match o with
 |some (some<|.builtin t)=>t==s
 |_=>false
def kC{o:Option (Option Value)}{s:String}(h:uF o s=true):o=some (some<|.builtin s):=by
 unfold uF at h;split at h
 .simp_all
 .cases h
noncomputable def zw(o:Option (Option Value)):Bool:=match o with
 |some none=>true
 |_=>false
def tH{o:Option (Option Value)}(h:zw o=true):o=some none:=by
 unfold zw at h;split at h
 .rfl
 .cases h
noncomputable def D_(o:Option Bool)(b:Bool):Bool:=match o with
 |some c=>c==b
 |_=>false
def rE{o:Option Bool}{b:Bool}(h:D_ o b=true):o=some b:=by
 unfold D_ at h;split at h
 .simp_all
 .cases h
noncomputable def jZ(K:aw)(x:Str)(f:Addr->Bool):Bool:=match PySem.W.nsIn K mainGlobals x with
 |some (some<|.ref C)=>f C
 |_=>false
def fk{K:aw}{f:Addr->Bool}(h:jZ K x f=true):∃C,PySem.W.nsIn K mainGlobals x=some (some<|.ref C)/\f C=true:=by
 unfold jZ at h;split at h
 .exact⟨_,by omega,h⟩
 .cases h
noncomputable def xb(K:aw)(o:Option (Option Value)):Bool:=match o with
 |some (some v)=>PySem.W.isFn K v
 |_=>false
section
variable{K:aw}{mg:Str->Option Value}{T:Tab}{bx:List Rec}{h:Heap}
def zz(K:aw)(T:Tab):Bool:=
 (T.icl.all λc=>jZ K c.x λC=>PySem.W.plainGet K C Str.empty&&(PySem.W.hasDictIn K C&&(PySem.W.plainOver K C&&(uF (PySem.W.findIn K (.ref C) "__setattr__") "object.__setattr__" &&(c.flds.all (λf=>zw<|PySem.W.findIn K (.ref C) f)&&
  c.mts.all (λp=>xb K<|PySem.W.findIn K (.ref C) p.1))))))&&
 ((T.mks.all λp=>jZ K p.1 λC=>PySem.W.makesIn K C&&(PySem.W.keepIn K (.ref C)&&xb K (PySem.W.findIn K (.ref C) "__init__")))&&
 (T.isks.all λt=>(t.1==("__debug__":Str))==false&&jZ K t.1 λB=>jZ K t.2 λC=>PySem.W.plainGet K C Str.empty&&(PySem.W.hasDictIn K C&&(PySem.W.plainOver K C&&(uF (PySem.W.findIn K (.ref C) "__setattr__") "object.__setattr__" &&(uF (PySem.W.findIn K (.ref C) "__class__") "object.__class__" &&
  (uF (PySem.W.specialIn K (.builtin "object.__class__") "__get__") "getset_descriptor.__get__" &&(D_ (PySem.W.takesIn K<|.builtin "object.__class__") true&&(D_ (PySem.W.mroIn K C<|.type "object") true&&D_ (PySem.W.kitOne K (.ref C)<|.ref B) true)))))))))
def EV(K:aw)(bx:List Rec)(x m:Str)(j:Nat):Prop:=∃C r a fd,bx[j]? =some r/\Lnk K r a fd/\PySem.W.nsIn K mainGlobals x=some (some<|.ref C)/\PySem.W.findIn K (.ref C) m=some (some<|.ref a)
def Gc(K:aw)(mg:Str->Option Value)(bx:List Rec)(x:Str)(j:Nat):Prop:=(x==("__debug__":Str))=false/\∃C r a fd,bx[j]? =some r/\Lnk K r a fd/\PySem.W.nsIn K mainGlobals x=some (some<|.ref C)/\mg x=some (.ref C)/\PySem.W.findIn K (.ref C) "__init__"=some (some<|.ref a)
def pP{o:Option (Option Value)}(h:xb K o=true)(e:o=some (some v)):PySem.W.isFn K v=true:=by rw[e] at h;exact h
def xw(X:K.In h)(Gn:h.Ns mainGlobals mg)(hc:∀r∈bx,Chk T r)(hq:T.calm=true)(Y:T.fns.length<=bx.length)
  (I:∀p∈List.zip T.fns bx,(p.1==("__debug__":Str))=false/\∃a fd,Lnk K p.2 a fd/\mg p.1=some (.ref a))
  (hcs:∀x d,T.csts.lookup x=some d->(x==("__debug__":Str))=false/\∃u v,mg x=some u/\RelV v u/\∀H G m,VRel K H G m d v)
  (hb:∀x∈u8,mg x=none)
  (hI:zz K T=true)(hm:∀c∈T.icl,∀p∈c.mts,EV K bx c.x p.1 p.2)(hk:∀p∈T.mks,Gc K mg bx p.1 p.2)
  (hg:∀t∈T.isks,∀C,PySem.W.nsIn K mainGlobals t.1=some (some<|.ref C)->mg t.1=some (.ref C)):Facts P w K mg T bx:=by
 unfold zz at hI;simp only[and_eq_true] at hI;obtain⟨i2,i3,i4⟩:=hI;refine⟨hc,hq,?_,hcs,hb,?_,?_,?_⟩
 .intro i f e;have hl:i<bx.length:=av (au e).1 Y;have er:bx[i]? =some bx[i]:=aA hl;have:(f,bx[i])∈List.zip T.fns bx:=ah (i:=i) (by rw[List.getElem?_zip_eq_some];exact⟨e,er⟩)
  obtain⟨d,a,fd,L,m⟩:=I _ this;exact⟨d,_,a,fd,er,L,m⟩
 .intro c Z;obtain⟨C,e,q⟩:=fk<|all_eq_true.mp i2 c Z;simp only[and_eq_true] at q;obtain⟨q1,q2,q3,q4,q5,q6⟩:=q;refine⟨C,e,⟨q1,q2,q3,kC q4⟩,λf I=>tH<|all_eq_true.mp q5 f I,λm j J=>?_⟩
  .obtain⟨C',r,a,fd,hr,L,e',I⟩:=hm c Z (m,j) J;rw[e] at e';cases e';exact⟨r,a,fd,hr,L,⟨I,pP (all_eq_true.mp q6 (m,j) J) I,L.f.kp⟩⟩
 .intro x j hx;obtain⟨hd,C,r,a,fd,hr,L,e,m,I⟩:=hk (x,j) hx;obtain⟨C',e',q⟩:=fk<|all_eq_true.mp i3 (x,j) hx;rw[e] at e';cases e';simp only[and_eq_true] at q;exact⟨hd,C,r,a,fd,hr,L,e,m,⟨q.1,I,pP q.2.2 I,q.2.1⟩⟩
 .intro t ht;have q:=all_eq_true.mp i4 t ht;simp only[and_eq_true] at q;obtain⟨q0,q⟩:=q;obtain⟨B,eb,q⟩:=fk q;obtain⟨C,e,q⟩:=fk q;simp only[and_eq_true] at q;obtain⟨q1,q2,q3,q4,q5,q6,q7,q8,q9⟩:=q;exact⟨by simpa using q0,B,C,eb,hg t ht B eb,e,⟨q1,q2,q3,kC q4⟩,kC q5,kC q6,rE q7,rE q8,rE q9⟩
end
def E_(r:Rec):Option Obj->Option Obj
 |some ⟨oc,od,.func f,sl⟩=>some ⟨oc,od,.func<|PySem.W.fnOf r.fname r.qual (fV r.st) (cx r.st) (aX r.st) .none f.kwdefaults f.doc f.pyModule f.annotations f.code f.closureTuple,sl⟩
 |_=>none
noncomputable def CN(K:aw)(r:Rec)(a:Addr):Bool:=match K.lookup a with
 |some ⟨_,_,.func f,_⟩=>PySem.W.codeIn K f.code r.qual&&PySem.W.keepIn K (.ref a)
 |_=>false
def Fe(r:Rec):Prop:=∀(kV doc pm:Value)(an:Option Addr)(cdv ct:Value)(us:List Value),us.length=r.ps.length->bindArgs (PySem.W.fnOf r.fname r.qual (fV r.st) (cx r.st) (aX r.st) .none kV doc pm an cdv ct) ⟨us,[]⟩=pure (r.ps.zip us)
def BW{K:aw}{r:Rec}{a:Addr}(I:Fe r)(h:CN K r a=true)(e:K.lookup a=E_ r (K.lookup a)):∃fd,Lnk K r a fd:=by
 unfold CN at h;cases q:K.lookup a with
 |none=>rw[q] at h;cases h
 |some o=>
  obtain⟨Z,Y,J,sl⟩:=o;cases J with
  |func f=>rw[q] at h e;rw[and_eq_true] at h;have F:=Ch (q.trans e) h.1 h.2;exact⟨_,F,F.binds I⟩
  |_=>rw[q] at h;cases h
noncomputable def D0(o:Option (Option Value))(a:Option Addr):Bool:=match o,a with
 |some (some<|.ref x),some y=>x==y
 |_,_=>false
def rz{o:Option (Option Value)}{a:Option Addr}(h:D0 o a=true):∃x,a=some x/\o=some (some<|.ref x):=by
 unfold D0 at h;split at h
 .simp_all
 .cases h
noncomputable def Fa(x:Str):Bool:=(x==("__debug__":Str))==false
def pM(K:aw)(T:Tab)(bx:List Rec)(ad:List Addr):Bool:=
 bx.length==ad.length&&((bx.zip ad).all (λp=>CN K p.1 p.2)&&((T.fns.zip<|bx.zip ad).all (λp=>Fa p.1&&D0 (PySem.W.nsIn K mainGlobals p.1) (some p.2.2))&&
 (u8.all (λx=>zw<|PySem.W.nsIn K mainGlobals x)&&(T.icl.all (λc=>jZ K c.x λC=>c.mts.all λp=>D0 (PySem.W.findIn K (.ref C) p.1) ad[p.2]?)&&T.mks.all (λp=>Fa p.1&&jZ K p.1 λC=>D0 (PySem.W.findIn K (.ref C) "__init__") ad[p.2]?)))))
section
variable{K:aw}{mg:Str->Option Value}{T:Tab}{bx:List Rec}{h:Heap}{ad:List Addr}
def Au(hb:∀r∈bx,Fe r)(I:pM K T bx ad=true)(e:(bx.zip ad).map (λp=>K.lookup p.2)=(bx.zip ad).map λp=>E_ p.1<|K.lookup p.2){a:Addr}(Y:ad[j]? =some a):∃r fd,bx[j]? =some r/\Lnk K r a fd:=by
 unfold pM at I;simp only[and_eq_true] at I;obtain⟨h0,h1,_⟩:=I;have h0:bx.length=ad.length:=by simpa using h0
 have hj:j<bx.length:=by rw[h0];exact(au Y).1
 have h:bx[j]? =some bx[j]:=aA hj;have J:(bx.zip ad)[j]? =some (bx[j],a):=by rw[List.getElem?_zip_eq_some];exact⟨h,Y⟩
 have Z:=ah J
 have e2:=by have q:=congrArg (·[j]?) e;simpa[List.getElem?_map,J] using q
 obtain⟨fd,L⟩:=BW (hb _<|ah h) (all_eq_true.mp h1 _ Z) e2;exact⟨_,fd,h,L⟩
def xF(h:Fa x=true):(x==("__debug__":Str))=false:=by unfold Fa at h;simpa using h
def uK(X:K.In h)(G:h.Ns mainGlobals mg)(hc:∀r∈bx,Chk T r)(hq:T.calm=true)(hbd:∀r∈bx,Fe r)(hl:pM K T bx ad=true)(e:(bx.zip ad).map (λp=>K.lookup p.2)=(bx.zip ad).map λp=>E_ p.1<|K.lookup p.2)
  (Z:T.fns.length<=bx.length)(hI:zz K T=true)
  (hcs:T.csts=[]):Facts P w K mg T bx:=by
 have LK:=λ{j:Nat}{a:Addr}(ha:ad[j]? =some a)=>Au hbd hl e ha;unfold pM at hl;simp only[and_eq_true] at hl;obtain⟨h0,h1,h2,h4,h6,h7⟩:=hl;refine xw X G hc hq Z (λp Y=>?_) (λx d hx=>?_) (λx hx=>PySem.W.mg_none_of X G<|tH<|all_eq_true.mp h4 x hx) hI (λc hc p Y=>?_) (λp Y=>?_)<|λt ht C J=>PySem.W.mg_of X G J
 .obtain⟨i,hi⟩:=List.getElem?_of_mem Y;rw[List.getElem?_zip_eq_some] at hi;have h0:bx.length=ad.length:=by simpa using h0
  have hj:i<ad.length:=by rw[<-h0];exact(au hi.2).1
  have ha:ad[i]? =some ad[i]:=aA hj;obtain⟨r,fd,I,L⟩:=LK ha;rw[hi.2] at I;cases I;have hz:(T.fns.zip<|bx.zip ad)[i]? =some (p.1,p.2,ad[i]):=by rw[List.getElem?_zip_eq_some];exact⟨hi.1,by rw[List.getElem?_zip_eq_some];exact⟨hi.2,ha⟩⟩
  have q:=all_eq_true.mp h2 _<|ah hz;simp only[and_eq_true] at q;obtain⟨x,ex,eo⟩:=rz q.2;cases ex;exact⟨xF q.1,_,fd,L,PySem.W.mg_of X G eo⟩
 .rw[hcs] at hx;cases hx
 .obtain⟨C,J,qq⟩:=fk<|all_eq_true.mp h6 c hc;obtain⟨a,ea,ef⟩:=rz<|all_eq_true.mp qq p Y;obtain⟨r,fd,I,L⟩:=LK ea;exact⟨C,r,a,fd,I,L,J,ef⟩
 .have q:=all_eq_true.mp h7 p Y;simp only[and_eq_true] at q;obtain⟨C,J,qq⟩:=fk q.2;obtain⟨a,ea,ef⟩:=rz qq;obtain⟨r,fd,I,L⟩:=LK ea;exact⟨xF q.1,C,r,a,fd,I,L,J,PySem.W.mg_of X G J,ef⟩
end
end Ev
namespace PySem.W
open PySem.Calls
variable{g h:Heap}{a kS:Addr}{ka:Array Value}{t1 t2:Tok}
noncomputable abbrev sK:=PyProof.Rows.strKind
def Kp(g h:Heap):Prop:=∀b o,g.get? b=some o->h.get? b=some o
def Kp.trans{k:Heap}(a:Kp g h)(b:Kp h k):Kp g k:=λc o e=>b c o<|a c o e
def Kp.upd{f:Obj->Obj}(k:Kp g h)(h0:g.get? a=none):Kp g (h.update a f):=λb o e=>((Heap.SameBut.update h a f).2 b λq=>by simp_all).trans<|k b o e
def Kp.new(k:Kp g h)(o:Obj):Kp g (h.push o):=λb u e=>ac _<|k b u e
noncomputable def fE(a b:Str):Bool:= !ltCps b.cps.toList a.cps.toList
def vF{e:Nat}(o:h.get? a=some (seqObj "list" xs e))(ys:Array Value):∃c,(h.update a<|Obj.mapSeq λ_=>ys).get? a=some (seqObj "list" ys c):=⟨_,get?_update_seq o λ_=>ys⟩
structure Two(g h:Heap)(kS a:Addr)(ka:Array Value)(e1:Nat):Prop where
 old:Kp g h
 n1:g.get? kS=none
 n2:g.get? a=none
 ne:a≠kS
 ks:∃e,h.get? kS=some (seqObj "list" ka e)
 ls:h.get? a=some (seqObj "list" #[] e1)
def Two.kp{e1:Nat}(t:Two g h kS a ka e1)(k:Kp h h'):Two g h' kS a ka e1:=
 ⟨t.old.trans k,t.n1,t.n2,t.ne,let⟨e,z⟩:=t.ks;⟨e,k _ _ z⟩,k _ _ t.ls⟩
def Two.put{e1:Nat}(t:Two g h kS a ka e1)(f:Array Value->Array Value):Two g (h.update kS<|Obj.mapSeq f) kS a (f ka) e1:=
 ⟨t.old.upd t.n1,t.n1,t.n2,t.ne,let⟨_,z⟩:=t.ks;⟨_,get?_update_seq z f⟩,((Heap.SameBut.update h kS _).2 a t.ne).trans t.ls⟩
section
variable{prog:Program}{w:World}{A:Around}{E:Value->Shared->Prop}{s:Shared}{g:Heap}{a kS:Addr}{v1 v2:Value}{k1 k2:Str}{e1:Nat}{P:PySem.Fin->Shared->Prop}
noncomputable def two(k1 k2:Str)(v1 v2:Value):List Value:=if fE k1 k2 then [v1,v2] else [v2,v1]
def AU{xs:Array Keyed}(u:fE k1 k2= !fE k2 k1)(J:xs.Perm #[(.str k1 t1,v1),(.str k2 t2,v2)])(I:SortedToK sK xs 2):(xs.map (·.2)).toList=two k1 k2 v1 v2:=by
 have h:=ksk_perm2<|Array.perm_iff_toList_perm.mp J;have h1:=I 0 1 (by omega) (by omega)
 rw[toList_map];unfold two;rcases h with h|h
 .obtain rfl:xs= #[(.str k1 t1,v1),(.str k2 t2,v2)]:=toList_inj.mp h
  have z:fE k1 k2=true:=by change decide (k2.cps.toList<k1.cps.toList)=false at h1;unfold fE;rw[ltCps_eq,h1];rfl
  rw[z];rfl
 .obtain rfl:xs= #[(.str k2 t2,v2),(.str k1 t1,v1)]:=toList_inj.mp h
  have z:fE k2 k1=true:=by change decide (k1.cps.toList<k2.cps.toList)=false at h1;unfold fE;rw[ltCps_eq,h1];rfl
  rw[u,z];rfl
def mf(s₁:Shared)(k:Str)(v:Value)(s₂:Shared):Prop:=∃h' tk t',s₂={s₁ with heap:=h',toks:=tk}/\v=.str k t'/\Kp s₁.heap h'
def vN{st:SortSt}(W:Two g s.heap kS a #[.str k1 t1,.str k2 t2] e1)(u:fE k1 k2= !fE k2 k1)(Y:(arrOf st).Perm #[(.str k1 t1,v1),(.str k2 t2,v2)])(hs:SortedToK sK (arrOf st) 2)(hf:failedOf st=none)
  (h:∀h' tk c,Kp g h'->h'.get? a=some (seqObj "list" (two k1 k2 v1 v2).toArray c)->P (.done<|.ret .none) {s with heap:=h',toks:=tk}):wpAny (model prog w) A (ksk_tail a false e1 (.ref kS) st) P E s:=by
 have sz:(arrOf st).size=2:=Y.size_eq;have I:=W.put λ_=> #[];have ho:=AU u Y hs;have eo:(arrOf st).map (·.2)=(two k1 k2 v1 v2).toArray:=by rw[<-ho]
 obtain⟨e,Z⟩:=W.ks;refine aa<|listUpdate_at Z rfl (aa<|wpAny_letGo<|aa<|seqEpoch_at I.ls rfl ?_) (by rw[sizeLine_eq];simp) (by decide)
 refine aa<|listUpdate_at I.ls rfl ?_ (by decide) (by rw[if_neg bf,Array.size_map,sz,sizeLine_eq];decide)
 rw[hf];simp only[bne_self_eq_false,false_eq_true,if_false];obtain⟨c2,J⟩:=vF I.ls _;exact ae<|h _ _ c2 (I.old.upd I.n2)<|J.trans (by rw[eo])
def zN(W:Two g s.heap kS a #[.str k1 t1,.str k2 t2] e1)(u:fE k1 k2= !fE k2 k1)
  (h:∀h' tk c,Kp g h'->h'.get? a=some (seqObj "list" (two k1 k2 v1 v2).toArray c)->P (.done<|.ret .none) {s with heap:=h',toks:=tk}):wpAny (model prog w) A (ksk_end a false #[v1,v2] e1 (.ref kS) #[.str k1 t1,.str k2 t2]) P E s:=by
 have J:=keyKind_strs<|.cons k1 t1<|.cons k2 t2 .nil;have z:¬(#[v1,v2]:Array Value).size<2:=by simp
 have zp:(#[Value.str k1 t1,.str k2 t2]:Array Value).zip #[v1,v2]= #[(.str k1 t1,v1),(.str k2 t2,v2)]:=toList_inj.mp<|ksk_zip _ [v1,v2];unfold ksk_end;simp only[false_eq_true,if_false,zp];rw[if_neg z,if_neg z,J];refine aa<|ae<|aa<|aO (wpS_sortRunsK (κ:=sK) strKind_oneLt (Q:=λ_ st'=>(arrOf st').Perm #[(.str k1 t1,v1),(.str k2 t2,v2)]/\failedOf st'=none/\SortedToK sK (arrOf st') 2) (λp I=>?_) ⟨Array.Perm.refl _,rfl,rfl,rfl⟩ (af 2) (show 2<64 by decide) λ_ x y z=>⟨x,y,z⟩) ?_ λ_ _ e=>e
 .have:p=(.str k1 t1,v1)\/p=(.str k2 t2,v2):=by simpa using I
  rcases this with rfl|rfl
  .exact⟨_,rfl⟩
  .exact⟨_,rfl⟩
 .rintro⟨⟨⟩,st'⟩ s' ⟨rfl,I,Z,Y⟩;exact vN W u I Y Z h
def pN{k:Str}{α:Type}{J:Value->Sem α}{b2:Value->Sem α}{Q:α->Shared->Prop}(W:Two g s.heap kS a ka e1)(hz:ka.size<2)(c:wpAny (model prog w) A (call f [v]) (mf s k) (λ_ _=>False) s)(hb:∀I,J I=(do Builtin.List.listUpdate (.ref kS) (·.push I);b2 I))
  (h:∀h' tk t',Two g h' kS a (ka.push<|.str k t') e1->wpAny (model prog w) A (b2<|.str k t') Q E {s with heap:=h',toks:=tk}){be:Value->Sem α}:
  wpAny (model prog w) A (do match <-(call f [v]).attempt with| .ok I=>J I| .error e=>be e) Q E s:=by
 refine aa<|wpAny_attempt<|aO c (λr s2 q=>?_) λ_ _ z=>z.elim;obtain⟨h2,tk2,t2,rfl,rfl,k2⟩:=q;have Y:=W.kp k2;obtain⟨e,Z⟩:=Y.ks;show wpAny _ _ (J _) _ _ _;rw[hb];exact aa<|listUpdate_at Z rfl (h _ _ _<|Y.put _) (by rw[sizeLine_eq];lia) (by rw[Array.size_push,sizeLine_eq];lia)
def wl(W:Two g s.heap kS a #[] e1)(u:fE k1 k2= !fE k2 k1)
  (c:∀(v:Value)(k:Str),v=v1/\k=k1\/v=v2/\k=k2->∀(h:Heap)(tk:Nat),Kp g h->wpAny (model prog w) A (call f [v]) (mf {s with heap:=h,toks:=tk} k) (λ_ _=>False) {s with heap:=h,toks:=tk})
  (h:∀h' tk c,Kp g h'->h'.get? a=some (seqObj "list" (two k1 k2 v1 v2).toArray c)->P (.done<|.ret .none) {s with heap:=h',toks:=tk}):wpAny (model prog w) A (ksk_rest a f false #[v1,v2] e1 (.ref kS)) P E s:=by
 unfold ksk_rest;refine aa<|wpAny_rule ?_;have Z:(#[v1,v2]:Array Value)=[v1,v2].toArray:=rfl;rw[Z,List.forIn_toArray,forIn_cons];refine aa<|aa<|pN (b2:=λ_=>pure<|ForInStep.yield PUnit.unit) W (by decide) (c v1 k1 (.inl ⟨rfl,rfl⟩) s.heap s.toks W.old) (λ_=>rfl) λh1 n1 t1 J=>ae ?_
 dsimp only;rw[forIn_cons];refine aa<|pN (s:={s with heap:=h1,toks:=n1}) (b2:=λ_=>pure<|ForInStep.yield PUnit.unit) J (by simp) (c v2 k2 (.inr ⟨rfl,rfl⟩) h1 n1 J.old) (λ_=>rfl) λh2 n2 t2 I=>ae ?_
 dsimp only;rw[forIn_nil];obtain⟨e,Y⟩:=I.ks;refine ae<|aa<|listItems_at Y rfl ?_;exact zN I u h
end
section
variable{prog:Program}{w:World}{A:Around}{E:Value->Shared->Prop}{s:Shared}{l q:Addr}{v1 v2:Value}{k1 k2:Str}{Q:Value->Shared->Prop}
def vL{n:Nat}{P:PySem.Fin->Shared->Prop}(G:Kp g s.heap)(ho:s.heap.get? a=some (seqObj "list" [v1,v2].toArray n))(J:g.get? a=none)(Y:g.objs.size<=s.heap.objs.size)(u:fE k1 k2= !fE k2 k1)
  (c:∀(v:Value)(k:Str),v=v1/\k=k1\/v=v2/\k=k2->∀(h:Heap)(tk:Nat),Kp g h->wpAny (model prog w) A (call f [v]) (mf {s with heap:=h,toks:=tk} k) (λ_ _=>False) {s with heap:=h,toks:=tk})
  (h:∀h' tk c,Kp g h'->h'.get? a=some (seqObj "list" (two k1 k2 v1 v2).toArray c)->P (.done<|.ret .none) {s with heap:=h',toks:=tk}):wpAny (model prog w) A (ksk_tree a f false) P E s:=by
 have lt:=ai ho;have I:=get?_update_seq ho λ_=> #[];have sz:((s.heap.update a<|Obj.mapSeq λ_=> #[]).push<|seqObj "tuple" #[v1,v2] 0).objs.size=s.heap.objs.size+1:=by rw[size_push',Heap.size_update]
 refine aa<|listItems_at ho rfl<|aa<|listUpdate_at ho rfl (aa<|seqEpoch_at I rfl<|aa<|wpAny_newTuple (aa<|wpAny_newList (wpAny_holding ?_) (by decide)) (by show 2<=_;rw[sizeLine_eq];decide)) (by show 2<=_;rw[sizeLine_eq];decide) (by decide)
 refine wl (s:={s with heap:=_}) (g:=g) ⟨((G.upd J).new _).new _,Heap.get?_none_of_le ?_,J,?_,⟨0,aj _ rfl⟩,ac _<|ac _ I⟩ u c h
 .exact ao Y<|ao (le_succ _)<|le_of_eq sz.symm
 .exact al<|av (Nat.lt_succ_of_lt lt)<|le_of_eq sz.symm
def rn(hl:s.heap.IsList l [v1,v2].toArray)(u:fE k1 k2= !fE k2 k1)
  (c:∀(v:Value)(k:Str),v=v1/\k=k1\/v=v2/\k=k2->∀(h:Heap)(tk:Nat),Kp s.heap h->wpAny (model prog w) A.in1.in1 (call (.ref q) [v]) (mf {s with heap:=h,toks:=tk} k) (λ_ _=>False) {s with heap:=h,toks:=tk})
  (h:∀D h' tk c,Kp s.heap h'->s.heap.get? D=none->h'.get? D=some (seqObj "list" (two k1 k2 v1 v2).toArray c)->Q (.ref D) {s with heap:=h',toks:=tk}):
  wpAny (model prog w) A (call (.builtin "sorted") [.ref l] [(Str.ofString "key",.ref q)]) Q E s:=by
 refine call_function_entry_kw kind_sorted plain_sorted entry_sorted (ksk_s1 _ _) ?_;refine aa (m:=checkCount "sorted" 1 1 _)<|ae<|aa<|collect_list hl (aa<|wpAny_newList ?_ (by show 2<=_;rw[sizeLine_eq];decide)) (by show 2<=_;rw[sizeLine_eq];decide)
 generalize e:(s.heap.push<|seqObj "list" #[] 0).update s.heap.objs.size (Obj.mapSeq (· ++[v1,v2].toArray))=h1;have z1:h1.objs.size=s.heap.objs.size+1:=by rw[<-e,Heap.size_update,size_push']
 have kp:Kp s.heap h1:=λb o x=>by have:=ai x;rw[<-e,Heap.get?_update_ne _ _ _ _<|al this,Heap.get?_push_ne _ _ _<|al this];exact x
 have I:(h1.push<|seqObj "list" [v1,v2].toArray 0).get? h1.objs.size=some (seqObj "list" [v1,v2].toArray 0):=aj _ rfl;have J:s.heap.get? h1.objs.size=none:=Heap.get?_none_of_le (by lia)
 refine aa<|wpAny_holding<|wpAny_call_entry_kw slot_list_sort ⟨_,I,rfl⟩ entry_list_sort ?_<|ksk_l1 _ _;rw[ksk_t1];exact vL (g:=s.heap) (s:={s with heap:=h1.push (seqObj "list" [v1,v2].toArray 0)}) (kp.new _) I J (by show _<=(h1.push _).objs.size;rw[size_push'];lia) u c λh' tk cc Z Y=>⟨_,rfl,ae ⟨_,rfl,h _ h' tk cc Z J Y⟩⟩
end
def m4{A:Around}{s:Shared}{q t c':Addr}{name x qual:Str}{j:Nat}{k:Str}{tk0:Tok}
  (h:A.depth<recursionLimit)(hf:s.heap.get? q=some (kla_obj name qual params (.Subscript (.Name x p1) (.Constant (.int 0) j p2) p3) scope [] pm c' ctv))(hcd:s.heap.CodeRec (.ref c') qual)(lim:s.heap.NoLimit)
  (ht:IsTup s.heap t its)(h0:its[0]? =some (.str k tk0))(hco:scope.isCoroutine=false)(Z:scope.isGenerator=false)(hk:scope.kind=.function)(I:∀y∈scope.names,y.2≠ .cell)(hx:scope.names.lookup x=some .local)
  (hd:(x==("__debug__":Str))=false) (J:∀v:Value,bindArgs (kla_fn name qual params (.Subscript (.Name x p1) (.Constant (.int 0) j p2) p3) scope [] pm (.ref c') ctv) ⟨[v],[]⟩=pure [(x,v)]):
  wpAny (model prog w) A (call (.ref q) [.ref t]) (mf s k) (λ_ _=>False) s:=by
 refine wpAny_call<|kla_callFunE h hf rfl hco Z rfl hcd ?_;rw[J];refine ae<|wpAny_newFunctionEnv I (λy hy=>by rw[mem_singleton.mp hy];exact hx) (λh₁ hns hsb=>?_) hk
 have hk₁:Kp s.heap h₁:=λb o e=>hsb.extBut b o (al<|ai e)<|ac _ e;refine⟨lim.keeps hk₁,kla_codeExpr<|Subscript_<|wpAny_Name (wpAny_loadName_local hk hx hns (v:= .ref t) (by simp)<|wpAny_Constant_int ?_) hd⟩
 obtain⟨ot,e1,e2⟩:=ht;have Y:IsTup h₁ t its:=⟨ot,hk₁ _ _ e1,e2⟩
 have hz:0<its.size:=by obtain⟨z,_⟩:=Array.getElem?_eq_some_iff.mp h0;exact z
 exact subscriptTail_builtinR (x:= .str k tk0) Y.typeIs slot_tuple_getitem.lookup<|getItem_tuple (j:=0) Y (by lia) (by lia) (by unfold seqIndex?;simp[hz]) h0 ⟨rfl,h₁,_,tk0,rfl,rfl,hk₁⟩
end PySem.W
namespace L2
open PySem.W
variable{P b c:Addr}
section
variable{X:Cx}{pins:List (Addr×Obj)}{W:St}{H:Hp}{s:Shared}
def Inv.tab{ps more:Array Value}{t':Nat}(I:Inv X pins W H s)(Z:H P=some (.tbl ps))(h:Heap.ExtBut P s.heap h')(Y:h'.get? P=some (tabObj<|ps++more)):
  Inv X pins W (upd H P<|.tbl<|ps++more) {s with heap:=h',toks:=t'}:=by
 have ne:∀{b:Addr}{o:Option HO},H b=o->o≠some (.tbl ps)->b≠P:=λe n z=>by subst z;exact n<|e.symm.trans Z
 refine I.un ⟨λb o e n _ _=>h b o (ne n (by simp)) e,λb o e n _ _=>⟨o.slots,h b o (ne n (by simp)) e⟩,λb o e n _=>?_,λb o e _=>?_,λb xs e=>?_,λb o u e=>?_,λb qs e=>?_⟩ λa o e=>?_
 .rw[aq<|ne n (by simp)];exact n
 .by_cases hb:b=P
  .exact⟨_,hb▸Y⟩
  .exact⟨o,h b o hb e⟩
 .rw[aq<|ne e (by simp)];exact e
 .rw[aq<|ne e (by simp)];exact e
 .by_cases hb:b=P
  .subst hb;rw[Z] at e;cases e;exact⟨more,aT⟩
  .exact⟨#[],by rw[aq hb,e];simp⟩
 .by_cases hb:a=P
  .subst hb;rw[aT] at e;cases e;exact Y
  .rw[aq hb] at e;refine(I.hok a o e).stay (λb u J r=>h b u ?_ r) (λb r=>by rw[aq<|ne r (by simp)];exact r) λb xs r=>by rw[aq<|ne r (by simp)];exact r
   rcases J with rfl|J
   .exact hb
   .exact ne J (by simp)
structure LamK(K:aw)(mg:Str->Option Value)(c P:Addr)(ps:Array Value)(pos:Pos):Prop where
 code:∀h:Heap,K.In h->CodeHd h c P
 tri:TriplesOk ps.toList
 new:codeAmong pos ps.toList=none
 blt:∃bm ob,mg "__builtins__"=some (.ref bm)/\bm≠builtinsNs/\bm≠mainGlobals/\bm≠P/\K.lookup bm=some ob/\ob.cls=.type "module" /\ob.dict=some builtinsNs/\ob.data=.plain
def wA{ps:Array Value}{te:TE}{x:Str}{p pos lpos kpos p1 p2 p3:Pos}{j:Nat}(LK:LamK X.K X.mg c P ps lpos)(hcode:X.env.code=.ref c)(hroom:X.A.depth<recursionLimit)
  (hg:Gl X "sorted") (hm:X.mg "sorted"=none) (hv:bootBuiltins "sorted"=some (.builtin "sorted")) (ha:PE X e te)
  (hcl:closureFor scope X.env=pure [])(hdf:defaultsOf params X.env=([],[]))(hco:scope.isCoroutine=false)(hgen:scope.isGenerator=false)(hk:scope.kind=.function)(Y:∀y∈scope.names,y.2≠ .cell)(hx:scope.names.lookup x=some .local)
  (hd:(x==("__debug__":Str))=false) (Z:∀(qual:Str)(pm ctv v:Value)(c':Addr),bindArgs (kla_fn "<lambda>" qual params (.Subscript (.Name x p1) (.Constant (.int 0) j p2) p3) scope [] pm (.ref c') ctv) ⟨[v],[]⟩=pure [(x,v)])
  (he:starEach [e] X.env=(false,eval e X.env)::starEach [] X.env:=by rfl):
  PE X (.Call (.Name "sorted" p) [e] [⟨some "key",.Lambda params (.Subscript (.Name x p1) (.Constant (.int 0) j p2) p3) scope lpos,kpos⟩] pos) (λW H Q=>te W H λy H1=>∃l t1 t2 k1 k2 xs1 xs2,y=.ref l/\dG X.K H1 l [.ref t1,.ref t2]/\
   dY X.K H1 t1 (.str k1::xs1)/\dY X.K H1 t2 (.str k2::xs2)/\fE k1 k2= !fE k2 k1/\H1 P=some (.tbl ps)/\
   ∀more l',H1 l'=none->Q (.ref l') (upd (upd H1 P<|.tbl<|ps++more) l'<|.lst (if fE k1 k2 then [.ref t1,.ref t2] else [.ref t2,.ref t1]))):=by
 intro pins s W H Q I h;refine wpAny_Call_Name_kw<|fF I hg hm hv ?_;refine callWith_kw ?_ (by rw[he];rfl) (by rw[he];rfl)
 rw[he];show wpAny _ _ (spliced<|(false,eval e X.env)::backTo pos (starEach [] X.env)) _ _ s;refine Calls.spliced_cons<|bR (ha pins s W H _ I h) λu s1 hp=>?_;obtain⟨y,H1,I1,r1,l,t1,t2,k1,k2,xs1,xs2,ey,hL,h1,h2,hne,hP,q⟩:=hp;refine Calls.spliced_nil ?_;subst ey;subst r1;show wpAny _ _ (evalAll<|(do let v <-eval (.Lambda params (.Subscript (.Name x p1) (.Constant (.int 0) j p2) p3) scope lpos) X.env;standAt pos;pure v)::[]) _ _ s1
 have hPo:s1.heap.get? P=some (tabObj ps):=I1.hok P _ hP;obtain⟨bm,ob,b1,b2,b3,b4,b5,b6,b7,b8⟩:=LK.blt;have hgs:s1.heap.Ns mainGlobals X.mg:=I1.mod.glob.keeps I1.bk
 have hgP:mainGlobals≠P:=λz=>by obtain⟨o,es,ep,e1,hd1,_⟩:=hgs;rw[z,hPo] at e1;cases e1;cases hd1
 refine wpAny_evalAll_cons<|aa<|kla_eval hdf<|kla_makeFunction (c:=c) (P:=P) (ps:=ps) hcl I1.ok.glob hgs hcode (LK.code _ I1.kIn) hPo LK.tri LK.new hgP ⟨bm,ob,b1,b2,b3,b4,I1.kIn _ _ b5,b6,b7,b8⟩ λc' ctv h' tk hx' hge hlt hrec htb=>aa<|wpAny_standAt<|ae<|wpAny_evalAll_nil ?_;have hext:Heap.ExtBut P s1.heap (h'.push<|kla_obj "<lambda>" (X.env.qual++ "<lambda>") params (.Subscript (.Name x p1) (.Constant (.int 0) j p2) p3) scope [] ((X.mg "__name__").getD .none) c' ctv):=λb o n e=>ac _<|hx' b o n e;have I2:=I1.tab (t':=tk) hP hext<|ac _ htb;have hfo:=aj h' (o:=kla_obj "<lambda>" (X.env.qual++ "<lambda>") params (.Subscript (.Name x p1) (.Constant (.int 0) j p2) p3) scope [] ((X.mg "__name__").getD .none) c' ctv) rfl
 have rdL:∀{a:Addr}{u:HO},(∀z,u≠ .tbl z)->Rd H1 a u->Rd (upd H1 P<|.tbl<|ps++ #[rawInt lpos.line,rawInt lpos.col,.ref c']) a u:=λ{a u} n r=>by
  have na:a≠P:=λz=>by
   cases z;rcases r with r|⟨o,r⟩
   .rw[hP] at r;cases r;exact n _ rfl
   .rw[hP] at r;cases r
  rcases r with r|⟨o,r⟩
  .exact .inl (by rw[aq na];exact r)
  .exact .inr ⟨o,by rw[aq na];exact r⟩
 have hL2:dG X.K (upd H1 P<|.tbl<|ps++ #[rawInt lpos.line,rawInt lpos.col,.ref c']) l [.ref t1,.ref t2]:=hL.imp (rdL (by simp)) id
 have h12:dY X.K (upd H1 P<|.tbl<|ps++ #[rawInt lpos.line,rawInt lpos.col,.ref c']) t1 (.str k1::xs1):=h1.imp (rdL (by simp)) id
 have h22:dY X.K (upd H1 P<|.tbl<|ps++ #[rawInt lpos.line,rawInt lpos.col,.ref c']) t2 (.str k2::xs2):=h2.imp (rdL (by simp)) id
 obtain⟨its,r,pl,_⟩:=I2.list hL2;obtain⟨i1,r1,pl1,_⟩:=I2.tuple h12;obtain⟨i2,r2,pl2,_⟩:=I2.tuple h22;obtain⟨u1,u2,rfl,ru1,ru2⟩:=vals2 r;subst ru1;subst ru2;obtain⟨z1,e1,⟨y1,rfl⟩⟩:=bq.get r1 (i:=0) (x:= .str k1) rfl;obtain⟨z2,e2,⟨y2,rfl⟩⟩:=bq.get r2 (i:=0) (x:= .str k2) rfl;show wpAny _ _ (call (.builtin "sorted") [.ref l] [(Str.ofString "key",.ref h'.objs.size)]) _ _ _;refine rn (k1:=k1) (k2:=k2) pl.isList hne (λv k ev h9 tk2 J=>?_) λD h9 tk2 cc J hD hc2=>?_
 .have room:X.A.in1.in1.depth<recursionLimit:=hroom;have fo:=J _ _ hfo
  have cr:h9.CodeRec (.ref c') (X.env.qual++ "<lambda>"):=by obtain⟨c₂,oc,vs,t,e2,hoc,hr⟩:=hrec;exact⟨c₂,oc,vs,t,e2,J _ _<|ac _ hoc,hr⟩
  have lim:h9.NoLimit:=I2.nolimit.keeps J;have tup:∀{a:Addr}{is:Array Value},IsTup _ a is->IsTup h9 a is:=λ⟨o,e,r⟩=>⟨o,J _ _ e,r⟩;rcases ev with⟨rfl,rfl⟩|⟨rfl,rfl⟩
  .exact m4 (s:={s1 with heap:=h9,toks:=tk2}) room fo cr lim (tup pl1) (by simpa using e1) hco hgen hk Y hx hd<|λv=>Z _ _ _ _ _
  .exact m4 (s:={s1 with heap:=h9,toks:=tk2}) room fo cr lim (tup pl2) (by simpa using e2) hco hgen hk Y hx hd<|λv=>Z _ _ _ _ _
 .refine jz (tk:=tk2) (vs:=if fE k1 k2 then [.ref t1,.ref t2] else [.ref t2,.ref t1]) I2 J hD hc2 ?_ (by split<;>simp) λl' hl'=>q _ l' ?_
  .unfold two;split
   .exact .cons rfl<|.cons rfl .nil
   .exact .cons rfl<|.cons rfl .nil
  .by_cases z:l'=P
   .cases z;rw[aT] at hl';cases hl'
   .rw[aq z] at hl';exact hl'
end
def nF(T:Addr)(ps:Array Value)(H:Hp):Prop:=H T=some (.tbl ps)/\∀b,b≠T->H b=none\/∃o xs,H b=some (.frz o<|.lst xs)
def zg{h h':Heap}{T:Addr}{ps more:Array Value}(hC:CodeHd h c T)(Z:h.get? T=some (tabObj ps))(I:h'.get? T=some (tabObj<|ps++more))(keep:∀b o,b≠T->h.get? b=some o->h'.get? b=some o):OldK h h':=by
 refine⟨λb o e=>?_,λb o e=>?_⟩
 .by_cases hb:b=T
  .subst hb;rw[Z] at e;cases e;obtain⟨Y,J,_,_,_,_,_,_,_,c1,c2,c3,c4,_⟩:=hC;exact .inr<|.inl ⟨⟨c,Y,J,c1,c2,c3,c4⟩,rfl,ps,more,rfl,I⟩
  .exact .inl<|keep b o hb e
 .by_cases hb:b=T
  .exact⟨_,hb▸I⟩
  .exact⟨o,keep b o hb e⟩
noncomputable def entry(K:aw)(a T:Addr)(ps:Array Value)(vs:List Value)(xs:List V):Hp:=λb=>if b=T then some (.tbl ps) else if b=a/\K.lookup a=none then some (.frz {cls:= .type "list",data:= .seq vs.toArray}<|.lst xs) else none
section
variable{P:Program}{w:World}{K:aw}{a T:Addr}{ps:Array Value}{vs:List Value}{xs:List V}{h:Heap}
def entry_at(h:b≠T):entry K a T ps vs xs b=if b=a/\K.lookup a=none then some (.frz {cls:= .type "list",data:= .seq vs.toArray}<|.lst xs) else none:=if_neg h
def ze:nF T ps (entry K a T ps vs xs):=⟨if_pos rfl,λb I=>by
 rw[entry_at I];by_cases h:b=a/\K.lookup a=none
 .exact .inr ⟨_,_,if_pos h⟩
 .exact .inl<|if_neg h⟩
def Dv(KX:K.In h)(Y:h.get? a=some {cls:= .type "list",data:= .seq vs.toArray})(I:a≠T)(rv:bq xs vs)(J:xs.length<=sizeLine):dG K (entry K a T ps vs xs) a xs:=by
 cases hk:K.lookup a with
 |none=>exact .inl<|.inr ⟨_,by rw[entry_at I,if_pos ⟨rfl,hk⟩]⟩
 |some o=>
  have e:=(KX a o hk).symm.trans Y;cases e;exact .inr ⟨_,vs.toArray,_,hk,rfl,rfl,rfl,by rw[size_toArray,<-rv.length];exact J,by omega⟩
def DU(I:h.get? a=some {cls:= .type "list",data:= .seq vs.toArray})(Y:h.get? T=some (tabObj ps))(rv:bq xs vs)(J:xs.length<=sizeLine):iG P w (entry K a T ps vs xs) h:=λb u z=>by
 by_cases hb:b=T
 .subst hb;rw[show entry K a b ps vs xs b=_ from if_pos rfl] at z;cases z;exact Y
 .rw[entry_at hb] at z;by_cases h:b=a/\K.lookup a=none
  .rw[if_pos h] at z;obtain⟨rfl,_⟩:=h;cases z;exact⟨I,J,vs,_,rv,I⟩
  .rw[if_neg h] at z;cases z
def in_of(z:entry K a T ps vs xs b≠none):b=a\/b=T:=by
 by_cases hb:b=T
 .exact .inr hb
 .rw[entry_at hb] at z;by_cases h:b=a/\K.lookup a=none
  .exact .inl h.1
  .exact absurd (if_neg h) z
def not_of(I:a≠T)(z:entry K a T ps vs xs a≠none):K.lookup a=none:=by
 rw[entry_at I] at z;by_cases h:a=a/\K.lookup a=none
 .exact h.2
 .exact absurd (if_neg h) z
end
def uw{P:Program}{w:World}{K:aw}{mg mb:Str->Option Value}{CX:yc}{k:Nat}{fa a T:Addr}{ps:Array Value}{fd:FuncData}{x:Str}{sp:Sp}{s₁:Shared}{vs:List Value}{ns:List Int}
  (KX:K.In s₁.heap)(hKT:K.lookup T=none)(hT:s₁.heap.get? T=some (PySem.W.tabObj ps))(hC:PySem.W.CodeHd s₁.heap c T)(hns:s₁.heap.Ns mainGlobals mg)(hb:s₁.heap.Ns builtinsNs mb)(hbb:∀x:Str,x≠ "__name__" ->mb x=bootBuiltins x) (hlim:s₁.heap.NoLimit)(hg:s₁.gens= #[])
  (ha:s₁.heap.get? a=some {cls:= .type "list",data:= .seq vs.toArray}) (hi:IntsAre vs ns)(hl:ns.length<=sizeLine)(hr:Room k callerA)
  (F:∀base:Heap,K.In base->base.Ns mainGlobals mg->FnOk P w K mg base CX k fa fd [x] sp)(Y:∀(s:Shared)(u:Value),BindsTo s fd ⟨[u],[]⟩ [(x,u)])
  (hsp:∀H:Hp,nF T ps H->dG K H a (ns.map V.int)->sp [.ref a] H (λv _=>v=.bl true) λ_ _ _=>False)
  (hCX:∀H e s',CX [] H s₁ (λ_ _ _=>False) e s'->False):
  codeAny (model P w) callerA (.call (.ref fa) ⟨[.ref a],[]⟩) (λr s'=>r=.ok (.ret<|.bool true)/\OldK s₁.heap s'.heap/\s'.os=s₁.os/\AllBare s'.gens) s₁:=by
 have rv:=mJ hi;have lenV:=hi.length
 have core:∀H:Hp,nF T ps H->dG K H a (ns.map V.int)->iG P w H s₁.heap->(∀b,H b≠none->b=a\/b=T)->(H a≠none->K.lookup a=none)->
   codeAny (model P w) callerA (.call (.ref fa) ⟨[.ref a],[]⟩) (λr s'=>r=.ok (.ret<|.bool true)/\OldK s₁.heap s'.heap/\s'.os=s₁.os/\AllBare s'.gens) s₁:=by
  intro H hO hS Z hA hK;have base_of:∀{b:Addr}{o:Obj},s₁.heap.get? b=some o->H b=none->(oM s₁.heap H).get? b=some o:=λe n=>xm e n
  have noA:∀{b:Addr}{o:Obj}{es:Array DictEntry}{ep:Nat},s₁.heap.get? b=some o->o.data=.dict es ep->H b=none:=λ{b o es ep} e d=>by
   cases q:H b with
   |none=>rfl
   |some u=>
    have e':b=a:=(hA b (by rw[q];simp)).resolve_right λz=>by subst z;rw[hT] at e;cases e;exact nomatch (show Data.fields ps=Data.dict es ep from d)
    subst e';rw[ha] at e;cases e;have d':Data.seq vs.toArray _=Data.dict es ep:=d;cases d'
  have I:∀{b:Addr}{m:Str->Option Value},s₁.heap.Ns b m->(oM s₁.heap H).Ns b m:=λ{b m} ⟨o,es,ep,e,d,r⟩=>⟨o,es,ep,base_of e<|noA e d,d,r⟩
  have hKb:K.In (oM s₁.heap H):=λb o e=>base_of (KX b o e) (by
   cases q:H b with
   |none=>rfl
   |some u=>
    have e':b=a:=(hA b (by rw[q];simp)).resolve_right λz=>by subst z;rw[hKT] at e;cases e
    subst e';rw[hK (by rw[q];simp)] at e;cases e)
  have hM:Mod K mg (oM s₁.heap H):=⟨hKb,I hns,⟨mb,I hb,hbb⟩,let⟨mc,h1,h2⟩:=hlim;⟨mc,I h1,h2⟩⟩;have e0:Env0 P w K mg (oM s₁.heap H) callerA [] s₁ H:=⟨rfl,hM,λb o e=>zh e,le_of_eq<|uH _ _,trivial,λb hb=>absurd (show b∈([]:List Addr) from hb) (by simp),Z,.of_eq hg⟩
  refine codeAny_mono ((F _ hKb<|I hns).run callerA [] s₁ H ⟨[.ref a],[]⟩ [.ref a] [.ref a] _ _ hr e0 (Y s₁<|.ref a) (.cons rfl .nil)<|hsp H hO hS) λr s' h=>?_;cases r with
  |error e=>exact(hCX H e s' h).elim
  |ok fl=>
   cases fl with
   |ret u=>
    obtain⟨v,H',os,bare,un,J,r',q⟩:=h;have q':v=.bl true:=q;subst q';obtain rfl:u=Value.bool true:=r';refine⟨rfl,zg hC hT (J T _ (un.tbls T ps hO.1).choose_spec) λb o hbT e=>?_,os,bare⟩;cases q:H b with
    |none=>exact un.keep b o e q (by intro z;exact absurd (show b∈([]:List Addr) from z) (by simp)) (by simp)
    |some u=>
     rcases hO.2 b hbT with z|⟨ob,xs,z⟩
     .rw[q] at z;cases z
     .have z2:=un.frzs b ob _ z;obtain⟨e1,_⟩:=Z b _ z;obtain⟨e2,_⟩:=J b _ z2;rw[e] at e1;cases e1;exact e2
   |_=>exact False.elim h
 have haT:a≠T:=λz=>by rw[z,hT] at ha;cases ha
 exact core _ ze (Dv KX ha haT rv (by rw[length_map];exact hl)) (DU ha hT rv (by rw[length_map];exact hl)) (λb z=>in_of z) λz=>not_of haT z
def vj{l:PySem.W.OpenLaw}{n k:Nat}{q:Program}{loose:List Str}{XP:(Str->Option Value)->Heap->Prop}{YP:World->Heap->Prop}{d:DefRec}{K:Params->aw}{CX:World->yc}{sp:World->Sp}{x:Str}{T:Addr}{ps:Array Value}
  (hn:l.most=some n)(Z:n<=sizeLine)(hdf:d.params.defaults=[])(hr:Room k callerA)(hY:∀(w:World)(h:Heap),YP w h->(K w.params).In h/\h.get? T=some (tabObj ps))(hKT:∀P,(K P).lookup T=none)(hC:∀(P:Params)(h:Heap),(K P).In h->CodeHd h c T)
  (F:∀(w:World)(mg:Str->Option Value)(I:Addr)(h:Heap),(K w.params).In h->h.Ns mainGlobals mg->mg d.name=some (.ref I)->∃fd:FuncData,(∀(s:Shared)(u:Value),BindsTo s fd ⟨[u],[]⟩ [(x,u)])/\∀base:Heap,(K w.params).In base->base.Ns mainGlobals mg->FnOk l.prog w (K w.params) mg base (CX w) k I fd [x] (sp w))
  (J:∀(w:World)(H:Hp)(a:Addr)(ns:List Int),ns.length<=n->nF T ps H->dG (K w.params) H a (ns.map V.int)->sp w [.ref a] H (λv _=>v=.bl true) λ_ _ _=>False)(hCX:∀(w:World)(H:Hp)(s:Shared)(e:Value)(s':Shared),CX w [] H s (λ_ _ _=>False) e s'->False):PySem.W.WalkO q loose XP YP l.row.toRowW d [] (λf vs=>PySem.call f vs):=by
 refine Att.ql hn hdf λw _ s₁ mg _ I _ _ _ _ a _ ns G Y _ _ _ hm ho hi hz hg=>?_;have KX:=hY w _ Y;obtain⟨fd,hb,hF⟩:=F w mg I _ KX.1 G.T.g hm;exact uw KX.1 (hKT _) KX.2 (hC _ _ KX.1) G.T.g G.T.b G.T.builtins G.T.nolimit hg ho hi (ao hz Z) hr hF hb (λH=>J w H a ns hz) λH e s'=>hCX w H s₁ e s'
def yW{b:List Stmt}{u:TS}(Y:PSs X b u):∀{a:List Stmt}{t:TS},PSs X a t->PSs X (a++b) (Dj t u):=by
 have eq:∀(a:List Stmt)(env:Env),execs (a++b) env=(execs a env>>=λf=>match f with| .next=>execs b env|f=>pure f):=by
  intro a env
  induction a with
  |nil=>simp[execs]
  |cons s r ih=>rw[cons_append,execs_cons,execs_cons,bind_assoc];congr 1;funext f;cases f<;>simp[ih]
 intro a t h1 pins s W H D I h;rw[eq];refine aa<|bR (h1 pins s W H {D with nx:=u D} I h) λf J q=>?_;cases f with
 |next=>obtain⟨W',H',Z,q⟩:=q;exact Y pins J W' H' D Z q
 |_=>exact ae q
end L2
namespace Ev
open L2 PySem.W
variable{a b st st':aV}{α β:Type}{u v:V}{f i j m n:Nat}{G:Nat->Addr}{H:Hp}{d da db x y:D}{loc:Loc}{g:ft}{args es:List Ex}{cs:List Str}{L xs:List D}{kvs:List (Key×D)}{hi lo:Option Int}{is:List Nat}
noncomputable def lP:D->Option Str
 | .tup (.str k::_)=>some k
 |_=>none
def mS(x:D):M D:=λst=>match x with
 | .ref n=>match st[n]? with
  |some (.lst [a,b])=>match lP a with
   |some k1=>match lP b with
    |some k2=>if fE k1 k2= !fE k2 k1 then .ok (.tup (if fE k1 k2 then [a,b] else [b,a])) st else .bad
    |none=>.bad
   |none=>.bad
  |_=>.bad
 |_=>.bad
noncomputable def wW(g:ft)(nl:Nat)(pre:List S)(e:Ex)(i:Nat)(post:List S)(ds:List D):M Rs:=
 bg (execs g pre<|ds.map some++replicate (nl - ds.length) none) λr=>match r with
  | .nx loc=>bg (run g e loc) λx=>bg (mS x) λd=>bg (execs g post<|loc.set i<|some d) λr=>match r with
   | .nx _=>ret<|.v .non
   | .rt d=>ret<|.v d
   | .ex n _=>ret<|.x n
  | .rt d=>ret<|.v d
  | .ex n _=>ret<|.x n
def qK(K:aw)(T:Addr)(ps:Array Value):Sp:=λvs H Q _=>∃(a:Addr)(ns:List Int),vs=[.ref a]/\dG K H a (ns.map V.int)/\nF T ps H/\ns.length<=63/\∀H',Q (.bl true) H'
noncomputable def codeOf(o:Obj):Value:=match o.data with
 | .func fd=>fd.code
 |_=>.none
def oU{m:M α}{f:α->M β}{b:β}(h:bg m f st=.ok b st'):∃a st1,m st=.ok a st1/\f a st1=.ok b st':=by
 unfold bg at h;cases e:m st with
 |bad=>simp_all
 |ok a st1=>rw[e] at h;exact⟨a,st1,rfl,h⟩
def C_{K:aw}{a b:D}{c:Bool}(h:VRel K H G m a v)(k:VRel K H G m b u):VRels K H G m (if c then [a,b] else [b,a]) (if c then [v,u] else [u,v]):=by
 cases c
 .exact .cons k<|.cons h .nil
 .exact .cons h<|.cons k .nil
def p_{K:aw}{k:Str}(h:lP d=some k)(r:VRel K H G m d v):∃t xs,v=.ref t/\dY K H t (.str k::xs):=by
 unfold lP at h;split at h
 .cases h;cases r with
  |tup hs rr=>
   cases rr with
   |cons r1 r2=>cases r1;exact⟨_,_,rfl,hs⟩
 .cases h
section
variable{P:Program}{w:World}{K:aw}{mg:Str->Option Value}{base:Heap}{T:Tab}{bx:List Rec}
def CA(Z:Facts P w K mg T bx){r:Rec}(S:FnScope r.N r.ps (aX r.st))(nm:∀x∈r.N,(x==("__debug__":Str))=false/\(x==("__classdict__":Str))=false){a:Addr}{A:Around}{outer:List Env}{s:Shared}{E:XK}
  (I:Room (2*n+1) (A.deeper<|envOfC r.qual (aX r.st) s.heap.objs.size a cdv)):Ctx T (calls (bx.map (·.fn)) n) (lY (oY P w) P w K mg base r.N r.qual (aX r.st) a cdv A outer s H E) (aX r.st) r.N:=by
 have un:=I.un;refine⟨rfl,rfl,S.nd,nm,λ_=>rfl,?_,λj f hj=>?_,Z.csts,Z.blt,λc hc=>?_,λx j hj=>?_,Z.isks⟩
 .show(A.deeper _).units+100<cLine
  lia
 .obtain⟨hd,Y,a2,fd2,h,J,hm⟩:=Z.fns j f hj;exact⟨hd,a2,fd2,Y.ps,2*n,hm,J.f.kp,J.b,I.mono<|le_succ _,d7 h (Z.chk Y<|ah h) n,ib Z n j Y a2 fd2 h J⟩
 .obtain⟨C0,q1,q2,q3,q4⟩:=Z.icl c hc;refine⟨C0,q1,q2,q3,λm j hj=>?_⟩;obtain⟨Y,a2,fd2,h,J,M⟩:=q4 m j hj;exact⟨a2,fd2,Y.ps,2*n,M,J.b,I.mono<|le_succ _,d7 h (Z.chk Y<|ah h) n,ib Z n j Y a2 fd2 h J⟩
 .obtain⟨hd,C0,Y,a2,fd2,h,J,q1,q2,q3⟩:=Z.mks x j hj;exact⟨hd,C0,a2,fd2,Y.ps,2*n,q1,q2,q3,J.b,I,d7 h (Z.chk Y<|ah h) n,ib Z n j Y a2 fd2 h J⟩
def vU(h:mS x st=.ok d st'):∃m da db k1 k2,x=.ref m/\st[m]? =some (.lst [da,db])/\lP da=some k1/\lP db=some k2/\fE k1 k2= !fE k2 k1/\d=.tup (if fE k1 k2 then [da,db] else [db,da])/\st'=st:=by
 unfold mS at h;cases x with
 |ref m=>
  dsimp only at h;split at h
  .rename_i da db Y;split at h
   .rename_i k1 ka;split at h
    .rename_i k2 J
     obtain⟨I,h⟩:_/\R.ok _ st=.ok d st':=by
      by_cases I:fE k1 k2= !fE k2 k1
      .rw[if_pos I] at h;exact⟨I,h⟩
      .rw[if_neg I] at h;cases h
     cases h;exact⟨m,da,db,k1,k2,rfl,Y,ka,J,I,rfl,rfl⟩
    .cases h
   .cases h
  .cases h
 |_=>cases h
def zo{W:L2.St}{Tb l t:Addr}{ps more:Array Value}{c:Bool}(S:Sim K H G st)(L:LRel K H G st.length loc W)(hT:H Tb=some (.tbl ps))(hn:∀n,n<st.length->G n≠Tb)(hl:H l=none)
  (I:(upd (upd H Tb<|.tbl<|ps++more) l<|.lst (if c then [v,u] else [u,v])) t=none)(ra:VRel K H G st.length da v)(rb:VRel K H G st.length db u):
  Sim K (upd (upd (upd H Tb<|.tbl<|ps++more) l<|.lst (if c then [v,u] else [u,v])) t<|.tup (if c then [v,u] else [u,v])) G st/\LRel K (upd (upd (upd H Tb<|.tbl<|ps++more) l<|.lst (if c then [v,u] else [u,v])) t<|.tup (if c then [v,u] else [u,v])) G st.length loc W/\VRel K (upd (upd (upd H Tb<|.tbl<|ps++more) l<|.lst (if c then [v,u] else [u,v])) t<|.tup (if c then [v,u] else [u,v])) G st.length (.tup (if c then [da,db] else [db,da])) (.ref t):=by
 generalize hz:(if c then [v,u] else [u,v])=zs at I
 have J:t≠l:=λz=>by subst z;rw[aT] at I;cases I
 have Y:t≠Tb:=λz=>by subst z;rw[aq J,aT] at I;cases I
 have Z:H t=none:=by rw[aq J,aq Y] at I;exact I
 have same:∀b,b≠Tb->H b≠none->upd (upd (upd H Tb<|.tbl<|ps++more) l<|.lst zs) t (.tup zs) b=H b:=λb h1 h2=>by
  rw[aq (λz=>by subst z;exact h2 Z),aq (λz=>by subst z;exact h2 hl),aq h1]
 have E0:Ext0 H _ G G st.length st.length:=
  ⟨af _,λ_ _=>rfl,λb xs h=>(same b (λz=>by cases z;rw[hT] at h;cases h) (by rw[h];simp)).trans h,λb o u h=>(same b (λz=>by cases z;rw[hT] at h;cases h) (by rw[h];simp)).trans h⟩
 refine⟨⟨S.inj,λn o eo=>(S.ob n o eo).move E0<|same _ (hn n (au eo).1) (by obtain⟨u,hu,_⟩:=(S.ob n o eo).there;rw[hu];simp)⟩,⟨L.1,λi d ei=>by obtain⟨v,hv,rv⟩:=L.2 i d ei;exact⟨v,hv,rv.ext0 E0⟩⟩,.tup (K:=K) (xs:=zs) (.inl<|.inl aT) ?_⟩
 exact(λ{H':Hp}(a:VRel K H' G st.length da v)(b:VRel K H' G st.length db u)=>(hz▸C_ a b:VRels K H' G st.length (if c then [da,db] else [db,da]) zs)) (ra.ext0 E0)<|rb.ext0 E0
def wV{Y:Nat}{pre post:List S}{ds:List D}(h:wW g Y pre e i post ds st=.ok (.v<|.bl true) st'):(∃st1,execs g pre (ds.map some++replicate (Y - ds.length) none) st=.ok (.rt<|.bl true) st1)\/∃loc st1 m da db k1 k2 I J,execs g pre (ds.map some++replicate (Y - ds.length) none) st=.ok (.nx loc) st1/\run g e loc st1=.ok (.ref m) I/\I[m]? =some (.lst [da,db])/\lP da=some k1/\lP db=some k2/\fE k1 k2= !fE k2 k1/\execs g post (loc.set i<|some<|.tup (if fE k1 k2 then [da,db] else [db,da])) I=.ok (.rt<|.bl true) J:=by
 obtain⟨f1,st1,e1,h⟩:=oU h;cases f1 with
 |rt d=>cases h;exact .inl ⟨_,e1⟩
 |ex m l=>cases h
 |nx loc=>
  obtain⟨x1,I,e2,h⟩:=oU h;obtain⟨d,st3,e3,h⟩:=oU h;obtain⟨f2,J,e4,h⟩:=oU h;obtain⟨m,da,db,k1,k2,rfl,em,ka,kb,Z,rfl,rfl⟩:=vU e3;cases f2 with
  |rt d=>cases h;exact .inr ⟨_,_,_,_,_,_,_,_,_,e1,e2,em,ka,kb,Z,e4⟩
  |_=>cases h
def zn{k1 k2:Str}(S:Sim K H G st)(r:VRel K H G st.length (.ref m) v)(em:st[m]? =some (.lst [da,db]))(ka:lP da=some k1)(Z:lP db=some k2):
  ∃t1 t2 xs1 xs2,v=.ref (G m)/\H (G m)=some (.lst [.ref t1,.ref t2])/\dY K H t1 (.str k1::xs1)/\dY K H t2 (.str k2::xs2)/\VRel K H G st.length da (.ref t1)/\VRel K H G st.length db (.ref t2):=by
 cases r with
 |ref hm=>
  obtain⟨xs,I,h⟩:=S.ob m _ em;cases h with
  |cons ra rr=>
   cases rr with
   |cons rb rr=>cases rr;obtain⟨t1,xs1,rfl,Y⟩:=p_ ka ra;obtain⟨t2,xs2,rfl,J⟩:=p_ Z rb;exact⟨t1,t2,xs1,xs2,rfl,I,Y,J,ra,rb⟩
def BX{a Tb:Addr}{ps:Array Value}{ns:List Int}(J:dG K H a (ns.map V.int))(I:nF Tb ps H):VRels K H (λ_=>0) 0 [.fl<|ns.map .int] [.ref a]:= .cons (.fl (by
  rcases J with(h|h)|h
  .by_cases ha:a=Tb
   .subst ha;rw[I.1] at h;cases h
   .rcases I.2 a ha with z|⟨o,xs,z⟩
    .simp_all
    simp_all
  .exact .inl h
  .exact .inr h) (pQ ns)) .nil
def zm(Z:Facts P w K mg T bx){r:Rec}{fa c Tb:Addr}{fd:FuncData}{ps:Array Value}{x0 x y:Str}{pre post:List S}{ex:Ex}
  (S:FnScope r.N r.ps (aX r.st))(nm:∀x∈r.N,(x==("__debug__":Str))=false/\(x==("__classdict__":Str))=false) (L:Lnk K r fa fd)(hcd:(K.lookup fa).map codeOf=some (.ref c))(hps:r.ps=[x0])
  (hb:cx r.st=A++ .Assign [.Name y py] (.Call (.Name "tuple" p1) [.Call (.Name "sorted" p2) [e] [⟨some "key",.Lambda params (.Subscript (.Name x q1) (.Constant (.int 0) j q2) q3) scope lpos,kpos⟩] p3] [] p4) p5::B)
  (c1:u7 T 100 (aX r.st) r.N A=some pre)(c2:u7 T 100 (aX r.st) r.N B=some post)(ce:cE T 100 (aX r.st) r.N e=some ex)(hi:dM r.N y=some i)(hl:isLocal (aX r.st) y=true)
  (g1:bE (aX r.st) "tuple"=true) (g2:bE (aX r.st) "sorted"=true) (hcm:T.calm=true)(LK:LamK K mg c Tb ps lpos)
  (hcl:∀env,closureFor scope env=pure [])(hdf:∀env,defaultsOf params env=([],[]))(hco:scope.isCoroutine=false)(hgen:scope.isGenerator=false)(hk:scope.kind=.function)(Y:∀y∈scope.names,y.2≠ .cell)(hx:scope.names.lookup x=some .local)
  (hd:(x==("__debug__":Str))=false) (hbind:∀(qual:Str)(pm ctv v:Value)(c':Addr),bindArgs (kla_fn "<lambda>" qual params (.Subscript (.Name x q1) (.Constant (.int 0) j q2) q3) scope [] pm (.ref c') ctv) ⟨[v],[]⟩=pure [(x,v)])
  (hs:∀ns:List Int,ns.length<=63->∃st',wW (calls (bx.map (·.fn)) n) r.N.length pre ex i post [.fl<|ns.map .int] []=.ok (.v<|.bl true) st'):
  FnOk P w K mg base (oY P w) (2*n+2) fa fd r.ps (qK K Tb ps):=by
 obtain⟨oc,od,kV,doc,pm,an,cdv,ct,osl,rfl,lk,hcd'⟩:=L.f.ex;rw[lk] at hcd;have ec:cdv=.ref c:=by simpa[codeOf] using hcd
 subst ec;refine AA lk hcd' S (λvs H Q E h=>by obtain⟨a,ns,rfl,_⟩:=h;rw[hps];rfl) λA0 outer s H vs Q E I hsp=>?_
 obtain⟨a,ns,rfl,hS,hO,hn,q⟩:=hsp;obtain⟨st',hrun⟩:=hs ns hn;have C:=CA (base:=base) (outer:=outer) (H:=H) (E:=E) Z S nm I;have snd:=(sound T (calls (bx.map (·.fn)) n) 100).1 C ce;have J:(A0.deeper<|envOfC r.qual (aX r.st) s.heap.objs.size fa<|.ref c).depth<recursionLimit:=by have:=I.dp;lia
 have hst:=cP ce [] (lY (oY P w) P w K mg base r.N r.qual (aX r.st) fa (.ref c) A0 outer s H E).env;have pm1:=wA (X:=lY (oY P w) P w K mg base r.N r.qual (aX r.st) fa (.ref c) A0 outer s H E) (p:=p2) (pos:=p3) (kpos:=kpos) LK rfl J (fg C g2) (C.blt _ (by decide+kernel)) (by decide+kernel) snd.1 (hcl _) (hdf _) hco hgen hk Y hx hd hbind hst
 have pm2:=mY (pos:=p4) (p:=p1) (eV (X:=lY (oY P w) P w K mg base r.N r.qual (aX r.st) fa (.ref c) A0 outer s H E)) (fg C g1) (C.blt _ (by decide+kernel)) (by decide+kernel)<|cf pm1 dk
 have pm3:=n_ (pos:=p5) (pos':=py) (by rw[C.n];exact C.nd) (show _=some y by rw[C.n];exact ci hi) (gy C hl) pm2 (by rfl)<|.inl rfl
 refine⟨_,hb▸yW (pF pm3<|(jl T _ 100).2 (Xw:=λa _ H'=>E (.ref a) none H') C (λ_=>rfl) PassesOwn.leaving ⟨rfl,rfl⟩ c2) ((jl T _ 100).2 (Xw:=λa _ H'=>E (.ref a) none H') C (λ_=>rfl) PassesOwn.leaving ⟨rfl,rfl⟩ c1),?_⟩;refine⟨λ_=>0,[],_,⟨λi _ hi=>absurd hi<|not_lt_zero _,λi o e=>by simp at e⟩,mQ (BX hS hO) r.N r.N.length rfl,?_⟩
 rcases wV hrun with⟨st1,e1⟩|⟨loc,st1,m,da,db,k1,k2,st2,st4,e1,e2,em,ka,kb,hne,e4⟩
 .rw[e1];exact λH' G' v _ _ rv=>by cases rv;exact q H'
 .rw[e1];intro H1 G1 W1 E1 S1 L1;refine bp S1 L1 e2 λH2 G2 v2 E2 S2 r2=>?_;have hT:=(E1.trans E2).fr Tb _ hO.1 λn hn=>absurd hn (not_lt_zero _);obtain⟨t1,t2,xs1,xs2,rfl,hx1,s1,s2,ra,rb⟩:=zn S2 r2 em ka kb;refine⟨_,t1,t2,k1,k2,xs1,xs2,rfl,.inl<|.inl hx1,s1,s2,hne,hT.1,λmore l' hl'=>⟨l',_,rfl,.inl ⟨.inl<|.inl aT,λt ht=>?_⟩⟩⟩;obtain⟨S4,L4,rd⟩:=zo S2 (L1.ext E2) hT.1 hT.2 hl' ht ra rb;refine⟨G2,_,_,S4,L4.set i rd,?_⟩;rw[e4];exact λH' G' v _ _ rv=>by cases rv;exact q H'
end
set_option genInjectivity true
open L2
def W{α:Type}(r:R α)(Q:α->aV->Prop):Prop:=match r with
 | .ok a st=>Q a st
 | .bad=>False
def W.mono{r:R α}{Q I:α->aV->Prop}(h:W r Q)(k:∀a st,Q a st->I a st):W r I:=by
 cases r with
 |ok a st=>exact k _ _ h
 |bad=>exact h
def W.get{r:R α}{Q:α->aV->Prop}(h:W r Q):∃a st,r=.ok a st/\Q a st:=by
 cases r with
 |ok a st=>exact⟨a,st,rfl,h⟩
 |bad=>exact h.elim
def Vq(Q:D->aV->Prop):Rs->aV->Prop:=λr st=>match r with
 | .v d=>Q d st
 | .x _=>False
abbrev Wv(r:R Rs)(Q:D->aV->Prop):Prop:=W r<|Vq Q
theorem Wv.mono{r:R Rs}{Q I:D->aV->Prop}(h:Wv r Q)(k:∀a st,Q a st->I a st):Wv r I:=W.mono h λa st q=>by
 cases a with
 |v d=>exact k _ _ q
 |x n=>exact q
def aH{m:M α}{f:α->M β}{Q:β->aV->Prop}(h:W (m st) λa st1=>W (f a st1) Q):W (bg m f st) Q:=by
 unfold bg;cases e:m st with
 |_=>rw[e] at h;exact h
section
variable{g:ft}{loc:Loc}{st:aV}{Q:D->aV->Prop}{a b c:Ex}
def aN(h:Q d st):W (run g (.c d) loc st) Q:=by exact h
def aC(e:loc[i]? =some (some d))(h:Q d st):W (run g (.v i) loc st) Q:=by show W (eW _ st) Q;rw[e];exact h
def aQ(h:W (runs g es loc st) λds st1=>Q (.tup ds) st1):W (run g (.tup es) loc st) Q:=by exact aH<|h.mono λ_ _ q=>q
def br(h:W (runs g es loc st) λds st1=>Q (.ref st1.length)<|st1++[.lst ds]):W (run g (.lst es) loc st) Q:=by exact aH<|h.mono λ_ _ q=>q
def vB(h:Q (.ref st.length) (st++[.dct []])):W (run g .emp loc st) Q:=by exact h
def aZ{op:Bo}(h:W (run g a loc st) λx st1=>W (run g b loc st1) λy I=>W (cj op x y I) Q):W (run g (.bin op a b) loc st) Q:=by exact aH<|h.mono λ_ _ q=>aH q
def w_not(h:W (run g a loc st) λx st1=>∃k,x=.bl k/\Q (.bl<|!k) st1):W (run g (.not a) loc st) Q:=by
 exact aH (h.mono λ_ _ ⟨i,e,q⟩=>by subst e;exact q)
def w_and(h:W (run g a loc st) λx st1=>∃k,x=.bl k/\(k=true->W (run g b loc st1) Q)/\(k=false->Q (.bl false) st1)):W (run g (.and a b) loc st) Q:=by
 exact aH (h.mono λ_ _ I=>by
  obtain⟨k,e,q1,q2⟩:=I;subst e;cases k with
  |true=>exact q1 rfl
  |false=>exact q2 rfl)
def w_or(h:W (run g a loc st) λx st1=>∃k,x=.bl k/\(k=true->Q (.bl true) st1)/\(k=false->W (run g b loc st1) Q)):W (run g (.or a b) loc st) Q:=by
 exact aH (h.mono λ_ _ I=>by
  obtain⟨k,e,q1,q2⟩:=I;subst e;cases k with
  |true=>exact q1 rfl
  |false=>exact q2 rfl)
def bn{op:CmpOp}(h:W (run g a loc st) λx st1=>W (run g b loc st1) λy I=>W (bS op x y I) Q):W (run g (.cmp op a b) loc st) Q:=by exact aH<|h.mono λ_ _ q=>aH q
def sf{op J:CmpOp}(h:W (run g a loc st) λx st1=>W (run g b loc st1) λy Z=>W (bS op x y Z) λz I=>∃k,z=.bl k/\
  (k=true->W (run g c loc I) λw Y=>W (bS J y w Y) Q)/\(k=false->Q (.bl false) I)):W (run g (.chain op J a b c) loc st) Q:=by
 exact aH (h.mono λ_ _ q=>aH (q.mono λ_ _ q=>aH (q.mono λ_ _ hp=>by
  obtain⟨k,e,q1,q2⟩:=hp;subst e;cases k with
  |true=>exact aH (show W _ Q from aH<|q1 rfl)
  |false=>exact q2 rfl)))
def bu(h:W (run g a loc st) λx st1=>W (run g b loc st1) λy I=>W (index x y I) Q):W (run g (.ix a b) loc st) Q:=by exact aH<|h.mono λ_ _ q=>aH q
def ip(h:W (run g a loc st) λx st1=>W (run g b loc st1) λy I=>∃i,y=.int i/\W (slice x none (some i) I) Q):W (run g (.sl a b b false true) loc st) Q:=by
 refine aH<|h.mono λ_ _ q=>aH ?_;exact aH (show W _ _ from aH (q.mono λ_ _ ⟨i,e,q⟩=>by subst e;exact q))
def gm(h:W (run g a loc st) λx st1=>W (run g b loc st1) λy I=>∃i,y=.int i/\W (slice x (some i) none I) Q):W (run g (.sl a b b true false) loc st) Q:=by
 refine aH<|h.mono λ_ _ q=>aH ?_;exact aH (q.mono λ_ _ ⟨i,e,q⟩=>by subst e;exact q)
def ck(h:W (runs g args loc st) λds st1=>Wv (g f ds st1) Q):W (run g (.fn f args) loc st) Q:=by
 refine aH<|h.mono λds st1 q=>aH<|W.mono q λr I q=>?_;cases r with
 |v d=>exact q
 |x n=>exact q.elim
def aW{f:Str}{ics:List Str}(h:W (run g a loc st) λx st1=>∃n c fs d,x=.ref n/\st1[n]? =some (.ins c fs)/\fs.lookup f=some d/\c∈ics/\Q d st1):W (run g (.fld a f cs ics) loc st) Q:=by
 exact aH (h.mono λx st1 ⟨n,c,fs,d,e,e1,e3,hc,q⟩=>by subst e;simp only[Ck,e1,e3];rw[if_pos hc];exact q)
def eX{x:Str}(h:W (runs g args loc st) λds st1=>Wv (g f (.ref st1.length::ds)<|st1++[.ins x []]) λd I=>d=.non/\Q (.ref st1.length) I):W (run g (.new x f args) loc st) Q:=by
 refine aH<|h.mono λds st1 q=>?_;unfold wO;refine aH<|W.mono q λr I q=>?_;cases r with
 |v d=>obtain⟨rfl,q⟩:=q;exact q
 |x n=>exact q.elim
def bV{m:Str}{J:List (Str×Nat)}(h:W (run g a loc st) λx st1=>∃n c fs j,x=.ref n/\st1[n]? =some (.ins c fs)/\fs.lookup m=none/\J.lookup c=some j/\W (runs g args loc st1) λds I=>Wv (g j (.ref n::ds) I) Q):W (run g (.meth a m J args) loc st) Q:=by
 refine aH<|h.mono λx st1 ⟨n,c,fs,j,e,e1,e2,e3,q⟩=>aH ?_;subst e;simp only[sX,e1,e2,e3];refine aH<|q.mono λds I q=>aH<|W.mono q λr Y q=>?_;cases r with
 |v d=>exact q
 |x n=>exact q.elim
def bH{f:Bt}(h:W (runs g args loc st) λds st1=>W (cK f ds st1) Q):W (run g (.bt f args) loc st) Q:=by exact aH h
def qz{ks:List Str}(h:W (runs g es loc st) λds st1=>(ks.length=ds.length/\ks.Nodup)/\Q (.ref st1.length) (st1++[.dct<|(ks.zip ds).map λp=>(Sum.inr p.1,p.2)])):W (run g (.dict ks es) loc st) Q:=by
 exact aH (h.mono λds st1 ⟨e,q⟩=>by unfold allocK;rw[if_pos e];exact q)
def dH{rng:Bool}(h:W (run g a loc st) λd st1=>∃s,cu rng d=some s/\W (bY (λx=>bg (run g b<|some x::loc) λy=>ret<|some y) s st1) Q):W (run g (.comp rng a b) loc st) Q:=by
 exact aH<|h.mono λ_ _ ⟨s,e,q⟩=>aH (by rw[e];exact q)
end
section
variable{g:ft}{loc:Loc}{st:aV}{Q:List D->aV->Prop}
def ag(h:Q [] st):W (runs g [] loc st) Q:=by exact h
def ab(h:W (run g e loc st) λd st1=>W (runs g es loc st1) λds I=>Q (d::ds) I):W (runs g (e::es) loc st) Q:=by exact aH<|h.mono λ_ _ q=>aH<|q.mono λ_ _ q=>q
end
section
variable{st:aV}{Q:D->aV->Prop}
def kt{c b:Ex}{Q:Option D->aV->Prop}(h:W (run g c (some x::loc) st) λz st1=>∃k,z=.bl k/\(k=true->W (run g b (some x::loc) st1) λy I=>Q (some y) I)/\(k=false->Q none st1)):
  W (bg (run g c<|some x::loc) (λz=>bg (eW<|fh z) λk=>if k then bg (run g b<|some x::loc) λy=>ret (some y) else ret none) st) Q:=
 aH (h.mono λ_ _ J=>by
  obtain⟨k,e,q1,q2⟩:=J;subst e;cases k with
  |true=>exact aH (aH<|q1 rfl)
  |false=>exact aH<|q2 rfl)
end
def Kn(g:ft)(ss:List S)(Q:Fl->aV->Prop):Fl->aV->Prop:=λr st=>match r with
 | .nx loc=>W (execs g ss loc st) Q
 | .rt d=>Q (.rt d) st
 | .ex n l=>Q (.ex n l) st
def Kr(Q:D->aV->Prop):Fl->aV->Prop:=λr st=>match r with
 | .nx _=>Q .non st
 | .rt d=>Q d st
 | .ex _ _=>False
section
variable{g:ft}{loc:Loc}{st:aV}{Q:Fl->aV->Prop}{ss:List S}{e o i c:Ex}
def bv(h:W (execs g ss loc st) Q):Kn g ss Q (.nx loc) st:=h
def cI(h:Q (.rt d) st):Kn g ss Q (.rt d) st:=h
def jT{Q:D->aV->Prop}(h:Q .non st):Kr Q (.nx loc) st:=h
def bi{Q:D->aV->Prop}(h:Q d st):Kr Q (.rt d) st:=h
def aR(h:Q (.nx loc) st):W (execs g [] loc st) Q:=by exact h
def cG{s:S}(h:W (exec g s loc st) (Kn g ss Q)):W (execs g (s::ss) loc st) Q:=by
 refine aH<|h.mono λr st1 q=>?_;cases r with
 |_=>exact q
def AH{f:Str}{ics:List Str}(h:W (run g e loc st) λd st1=>W (run g o loc st1) λx J=>W (pw cs ics x f d J) λ_ I=>W (execs g ss loc I) Q):W (execs g (.setf o f e cs ics::ss) loc st) Q:=
 cG (by exact aH<|h.mono λ_ _ q=>aH<|q.mono λ_ _ q=>aH<|q.mono λ_ _ q=>q)
def a_(h:W (run g e loc st) λd st1=>W (execs g ss (loc.set n<|some d) st1) Q):W (execs g (.set n e::ss) loc st) Q:=
 cG (by exact aH<|h.mono λ_ _ q=>q)
def dB(h:W (run g e loc st) λd st1=>W (run g o loc st1) λx Y=>W (run g i loc Y) λk J=>W (iO x k d J) λ_ I=>W (execs g ss loc I) Q):W (execs g (.setix o i e::ss) loc st) Q:=
 cG (by exact aH<|h.mono λ_ _ q=>aH<|q.mono λ_ _ q=>aH<|q.mono λ_ _ q=>aH<|q.mono λ_ _ q=>q)
def bo(h:W (run g e loc st) λd st1=>Q (.rt d) st1):W (execs g (.ret e::ss) loc st) Q:=
 cG (by exact aH<|h.mono λ_ _ q=>q)
def ij(h:W (run g o loc st) λx st1=>W (jQ x st1) λ_ Y=>W (run g e loc Y) λd J=>W (append x d J) λ_ I=>W (execs g ss loc I) Q):W (execs g (.app o e::ss) loc st) Q:=
 cG (by exact aH<|h.mono λ_ _ q=>aH<|q.mono λ_ _ q=>aH<|q.mono λ_ _ q=>aH<|q.mono λ_ _ q=>q)
def C8(h:W (run g o loc st) λx st1=>W (jQ x st1) λ_ Y=>W (run g e loc Y) λd J=>W (extend x d J) λ_ I=>W (execs g ss loc I) Q):W (execs g (.ext o e::ss) loc st) Q:=
 cG (by exact aH<|h.mono λ_ _ q=>aH<|q.mono λ_ _ q=>aH<|q.mono λ_ _ q=>aH<|q.mono λ_ _ q=>q)
def o_(h:W (run g o loc st) λx st1=>W (iD x st1) λ_ I=>W (execs g ss loc I) Q):W (execs g (.clr o::ss) loc st) Q:=
 cG (by exact aH<|h.mono λ_ _ q=>aH<|q.mono λ_ _ q=>q)
theorem o6{c:Loc->M D}{f:Loc->M Fl}(I:Nat->Loc->aV->Prop)(turn:∀m loc st,I m loc st->W (c loc st) λx st1=>∃b,x=.bl b/\(b=true->∃m',m=m'+1/\W (f loc st1) λr J=>match r with| .nx loc'=>I m' loc' J| .rt d=>Q (.rt d) J| .ex n l=>Q (.ex n l) J)/\(b=false->Q (.nx loc) st1)):
  ∀k m loc st,m<k->I m loc st->W (kO c f k loc st) Q
 |0,m,loc,st,h1,h=>by omega
 |k+1,m,loc,st,h1,h=>by
  refine aH<|(turn m loc st h).mono λx st1 Y=>?_;obtain⟨b,e,q1,q2⟩:=Y;subst e;cases b with
  |false=>exact q2 rfl
  |true=>
   obtain⟨m',rfl,q⟩:=q1 rfl;refine aH (show W _ _ from aH<|q.mono λr J q=>?_);cases r with
   |nx loc'=>exact o6 I turn k m' loc' J (by omega) q
   |_=>exact q
def eE{x y:List S}(h:W (run g c loc st) λz st1=>∃k,z=.bl k/\(k=true->W (execs g x loc st1) (Kn g ss Q))/\(k=false->W (execs g y loc st1) (Kn g ss Q))):W (execs g (.ite c x y::ss) loc st) Q:=
 cG (by
  exact aH (h.mono λ_ _ I=>by
   obtain⟨k,e,q1,q2⟩:=I;subst e;cases k with
   |true=>exact q1 rfl
   |false=>exact q2 rfl))
def Kf(I:Loc->aV->Prop)(Q:Fl->aV->Prop):Fl->aV->Prop:=λr st=>match r with
 | .nx loc=>I loc st
 | .rt d=>Q (.rt d) st
 | .ex n l=>Q (.ex n l) st
def dE{I:Loc->aV->Prop}(h:I loc st):Kf I Q (.nx loc) st:=h
end
section
end
def AD{Q:Fl->aV->Prop}{ss body:List S}(I:Nat->Loc->aV->Prop)(m:Nat)(Y:m<1000000000)(h0:I m loc st)(turn:∀m loc st,I m loc st->W (run g c loc st) λx st1=>∃b,x=.bl b/\(b=true->∃m',m=m'+1/\W (execs g body loc st1) (Kf (I m')<|Kn g ss Q))/\(b=false->W (execs g ss loc st1) Q)):
  W (execs g (.whil c body::ss) loc st) Q:=by
 refine cG ?_;refine o6 I (λm loc st h=>(turn m loc st h).mono λx st1 ⟨b,e,q1,q2⟩=>⟨b,e,λZ=>?_,q2⟩) Ci m loc st Y h0;obtain⟨m',e,q⟩:=q1 Z;refine⟨m',e,q.mono λr J q=>?_⟩;trivial
def vC{tab:List Fn}{k:Nat}{fn:Fn}{ds:List D}{Q:D->aV->Prop}(J:tab[f]? =some fn)(I:ds.length=fn.ar)(h:W (execs (calls tab k) fn.body (ds.map some++replicate (fn.nl - ds.length) none) st) (Kr Q)):Wv (calls tab (k+1) f ds st) Q:=by
 simp only[calls,J,tU,if_pos I];refine aH<|h.mono λr st1 q=>?_;cases r with
 |ex n l=>exact q.elim
 |_=>exact q
section
variable{st:aV}{Q:D->aV->Prop}{i j:Int}
def w_add(h:Q (.int<|i+j) st):W (cj .add (.int i) (.int j) st) Q:=h
def w_sub(h:Q (.int<|i - j) st):W (cj .sub (.int i) (.int j) st) Q:=h
def w_mul(I:(-18446744073709551616<i/\i<18446744073709551616)\/(-18446744073709551616<j/\j<18446744073709551616))(h:Q (.int<|i*j) st):W (cj .mul (.int i) (.int j) st) Q:=by simp only[cj,uq];rw[if_pos<|.inl (show(-big<i/\i<big)\/(-big<j/\j<big) from I)];exact h
def w_mod(I:0<j)(h:Q (.int<|i % j) st):W (cj .mod (.int i) (.int j) st) Q:=by
 simp only[cj,ii];rw[if_pos (by lia),Int.fmod_eq_emod_of_nonneg i (by lia)];exact h
def cQ(I:0<j/\j<4611686018427387904)(h:Q (.int<|i / j) st):W (cj .fdiv (.int i) (.int j) st) Q:=by
 simp only[cj,ii];rw[if_pos ⟨by lia,av (show j.natAbs<4611686018427387904 by omega) (by decide)⟩,Int.fdiv_eq_ediv_of_nonneg i (by lia)];exact h
def AR{as bs:List D}(J:as≠[])(I:as.length+bs.length<=1000000)(h:Q (.tup<|as++bs) st):W (cj .add (.tup as) (.tup bs) st) Q:=by
 cases as with
 |nil=>trivial
 |cons a as=>simp only[cj,addD];rw[if_pos I];exact h
def cZ{as bs:List D}(J:st[m]? =some (.lst as))(I:st[n]? =some (.lst bs))(Y:as.length+bs.length<=1000000)(h:Q (.ref st.length) (st++[.lst<|as++bs])):W (cj .add (.ref m) (.ref n) st) Q:=by simp only[cj,addD,J,I];rw[if_pos Y];exact h
def w_eq{k:Bool}(e:dX 60 st x y=some k)(h:Q (.bl k) st):W (bS .Eq x y st) Q:=by simp only[bS,e];exact h
def j6{k:Bool}(e:dX 60 st x y=some k)(h:Q (.bl<|!k) st):W (bS .NotEq x y st) Q:=by simp only[bS,e];exact h
def jO(h:Q (.bl<|decide<|i=j) st):W (bS .Eq (.int i) (.int j) st) Q:=w_eq (k:=decide<|i=j) (by simp[dX,shape,rP];rfl) h
def Ae(h:Q (.bl<|!decide (i=j)) st):W (bS .NotEq (.int i) (.int j) st) Q:=j6 (k:=decide<|i=j) (by simp[dX,shape,rP];rfl) h
def w_lt(h:Q (.bl<|decide<|i<j) st):W (bS .Lt (.int i) (.int j) st) Q:=h
def AK(h:Q (.bl<|decide<|i<=j) st):W (bS .LtE (.int i) (.int j) st) Q:=h
def AN(h:Q (.bl<|decide<|j<i) st):W (bS .Gt (.int i) (.int j) st) Q:=h
def w_is{k:Bool}(e:B_ x y=some k)(h:Q (.bl k) st):W (bS .Is x y st) Q:=by simp only[bS,e];exact h
def kr{k:Bool}(e:B_ x y=some k)(h:Q (.bl<|!k) st):W (bS .IsNot x y st) Q:=by simp only[bS,e];exact h
def bJ(e:tX xs i=some d)(h:Q d st):W (index (.tup xs) (.int i) st) Q:=by simp only[index,bz,e];exact h
def eY(I:st[n]? =some (.lst xs))(e:tX xs i=some d)(h:Q d st):W (index (.ref n) (.int i) st) Q:=by simp only[index,bz,I,e];exact h
def kW{k:Str}(I:st[n]? =some (.dct kvs))(e:d_ kvs (.inr k)=some d)(h:Q d st):W (index (.ref n) (.str k) st) Q:=by simp only[index,CO,I,e];exact h
def AM(I:st[n]? =some (.dct kvs))(e:d_ kvs (.inl i)=some d)(h:Q d st):W (index (.ref n) (.int i) st) Q:=by simp only[index,bz,CO,I,e];exact h
def fu(I:st[n]? =some (.dct kvs))(h:Q (.ref st.length) (st++[.dct kvs])):W (cK .dict [.ref n] st) Q:=by simp only[cK,mm,c8,I];exact h
def cq{v:D}{k:Key}{Q:Unit->aV->Prop}(I:st[n]? =some (.dct kvs))(Y:uD x=some k)(J:kvs.length<1000000)(h:Q () (st.set n<|.dct<|bw kvs k v)):W (iO (.ref n) x v st) Q:=by simp only[iO,I,Y];rw[if_pos J];exact h
def yg{c f:Str}{fs:List (Str×D)}{ics:List Str}{v:D}{Q:Unit->aV->Prop}(I:st[n]? =some (.ins c fs))(J:fs.length<900/\c∈ics)(h:Q () (st.set n<|.ins c<|putD f v fs)):W (pw cs ics (.ref n) f v st) Q:=by simp only[pw,I];rw[if_pos J];exact h
def rV{xs:List α}(h0:0<=i)(h1:i<xs.length):∃d,tX xs i=some d/\xs[i.toNat]? =some d:=by
 unfold tX Aw
 simp_all
def hV(J:st[n]? =some (.lst xs))(h0:0<=i)(h1:i<xs.length)(h:∀d,d∈xs->xs[i.toNat]? =some d->Q d st):W (index (.ref n) (.int i) st) Q:=by obtain⟨d,e,I⟩:=rV h0 h1;exact eY J e<|h d (ah I) I
def iq(h:Q (.int xs.length) st):W (cK .len [.tup xs] st) Q:=h
def gp(I:st[n]? =some (.lst xs))(h:Q (.int xs.length) st):W (cK .len [.ref n] st) Q:=by simp only[cK,mm,bz,I];exact h
def cX(h:Q (.ref st.length) (st++[.lst xs])):W (cK .list [.tup xs] st) Q:=h
def yi(I:st[n]? =some (.lst xs))(h:Q (.ref st.length) (st++[.lst xs])):W (cK .list [.ref n] st) Q:=by simp only[cK,mm,bz,I];exact h
def o7(h:Q (.tup xs) st):W (cK .tuple [.tup xs] st) Q:=h
def bU(I:st[n]? =some (.lst xs))(h:Q (.tup xs) st):W (cK .tuple [.ref n] st) Q:=by simp only[cK,mm,bz,I];exact h
def r8(h:Q (.tup<|cutD xs lo hi) st):W (slice (.tup xs) lo hi st) Q:=h
def o8(I:st[n]? =some (.lst xs))(h:Q (.ref st.length) (st++[.lst<|cutD xs lo hi])):W (slice (.ref n) lo hi st) Q:=by simp only[slice,bz,I];exact h
def cW{Q:Unit->aV->Prop}(I:st[n]? =some (.lst xs))(h:Q () st):W (jQ (.ref n) st) Q:=by simp only[jQ,I];exact h
def cM{v:D}{Q:Unit->aV->Prop}(I:st[n]? =some (.lst xs))(J:xs.length<1000000)(h:Q () (st.set n<|.lst<|xs++[v])):W (append (.ref n) v st) Q:=by simp only[append,I];rw[if_pos J];exact h
end
def Gr(st st':aV):Prop:=∃t,st'=st++t
def Gr.refl(st:aV):Gr st st:=⟨[],by simp⟩
def Gr.trans{c:aV}(h:Gr a b)(k:Gr b c):Gr a c:=by
 obtain⟨t,rfl⟩:=h;obtain⟨u,rfl⟩:=k;exact⟨t++u,by simp⟩
def Gr.one(st:aV)(o:O):Gr st (st++[o]):=⟨[o],rfl⟩
def Gr.more(h:Gr a b)(o:O):Gr a (b++[o]):=h.trans<|.one b o
def Gr.le(h:Gr a b):a.length<=b.length:=by obtain⟨t,rfl⟩:=h;simp
def Gr.at(h:Gr a b){o:O}(e:a[i]? =some o):b[i]? =some o:=by obtain⟨t,rfl⟩:=h;have:=(au e).1;rw[aI this];exact e
def am{o:O}:(st++[o])[st.length]? =some o:=by simp
def aF{o:O}{t:aV}(e:st[i]? =some o):(st++t)[i]? =some o:=by have:=(au e).1;rw[aI this];exact e
def dj{j:Int}(h: -1000000<=j/\j<=1000000):cu true (.int j)=some (.its<|bW j.toNat):=by simp only[cu];rw[if_pos h]
def bQ(n:Nat):(bW n).length=n:=by simp[bW]
def cA{o:O}(h:n<st.length):(st.set n o)[n]? =some o:=by rw[aY h]
def vH{a b:O}:(st++[a,b])[st.length]? =some a:=by simp
def t4{a b:O}:(st++[a,b])[st.length+1]? =some b:=by simp
def bN{a b:O}:(st++[a]).set st.length b=st++[b]:=by simp
def gu{a b c:O}:(st++[a,b]).set st.length c=st++[c,b]:=by simp
section
variable{g:ft}{loc:Loc}{st:aV}{Q:D->aV->Prop}{a b c e:Ex}
def vt(h:W (run g a loc st) λx st1=>∃n y ys,x=.ref n/\st1[n]? =some (.lst<|y::ys)/\Q y (st1.set n<|.lst ys)):W (run g (.pop a) loc st) Q:=by
 exact aH (h.mono λx st1 ⟨n,y,ys,e,e1,q⟩=>by subst e;simp only[Bv,e1];exact q)
def r_(h:W (run g a loc st) λy st1=>∃n x fs,y=.ref n/\st1[n]? =some (.ins x fs)/\x∈cs/\Q (.bl true) st1):W (run g (.isk a cs) loc st) Q:=by
 exact aH (h.mono λy st1 ⟨n,x,fs,e,e1,e2,q⟩=>by subst e;simp only[B8,e1];rw[if_pos e2];exact q)
def o9{t:Ty}(h:W (run g a loc st) λy st1=>w_ t y st1=.ok (.bl true) st1/\Q (.bl true) st1):W (run g (.isi a t) loc st) Q:=by
 exact aH (h.mono λy st1 ⟨e,q⟩=>by rw[e];exact q)
def vp(h:W (run g a loc st) λy st1=>∃n kvs ns,y=.ref n/\st1[n]? =some (.dct kvs)/\m_ kvs=some ns/\(ns.Pairwise (· < ·)/\kvs.length<64)/\Q (.ref st1.length) (st1++[.lst<|(ns.zip kvs).map λp=>.tup [.int p.1,p.2.2]])):W (run g (.sit a) loc st) Q:=by
 exact aH (h.mono λy st1 ⟨n,kvs,ns,e,e1,e2,e3,q⟩=>by subst e;simp only[A2,c8,e1,e2];rw[if_pos e3];exact q)
def C5{ks:List D}(hi:loc[i]? =some (some<|.ref n))(Y:loc[j]? =some (some y))(I:st[n]? =some (.dct kvs))(Z:sT y=true/\ig (kvs.map (·.2))=true/\kvs.length<=1000)(J:rp kvs y kvs=some ks)(h:Q (.ref st.length) (st++[.lst ks])):W (run g (.keq i j) loc st) Q:=by refine aH ?_;unfold eW;rw[hi];refine aH ?_;rw[Y];show W (zu (.ref n) y st) Q;simp only[zu,c8,I];rw[if_pos Z];simp only[J];exact h
def C6(h:W (run g a loc st) λx st1=>W (run g b loc st1) λy I=>∃n kvs k,y=.ref n/\I[n]? =some (.dct kvs)/\cN I x (kvs.map (·.2))=some k/\Q (.bl k) I):W (run g (.inV a b) loc st) Q:=by
 exact aH<|h.mono λx st1 q=>aH (q.mono λy I ⟨n,kvs,k,e,e1,e2,q⟩=>by subst e;simp only[Cd,c8,e1,e2];exact q)
def iM(h:W (run g a loc st) λd st1=>∃s,cu false d=some s/\W (bY (λx=>bg (run g b<|some x::loc) λz=>bg (eW<|fh z) λk=>if k then bg (run g c<|some x::loc) λy=>ret (some y) else ret none) s st1) Q):W (run g (.compIf a b c) loc st) Q:=by
 exact aH<|h.mono λ_ _ ⟨s,e,q⟩=>aH (by rw[e];exact q)
def fv(h:W (run g a loc st) λd st1=>∃s,cu false d=some s/\W (bY (pairF λx y=>run g b<|some x::some y::loc) s st1) Q):W (run g (.compU a b) loc st) Q:=by
 exact aH<|h.mono λ_ _ ⟨s,e,q⟩=>aH (by rw[e];exact q)
variable{i j:Int}
def w_pow(I:0<=j/\j<=1000/\i.natAbs<1000)(h:Q (.int<|i^j.toNat) st):W (cj .pow (.int i) (.int j) st) Q:=by simp only[cj,ii];rw[if_pos I];exact h
def vv{k:Bool}(h:Q (.int (if k then 1 else 0)) st):W (cK .int [.bl k] st) Q:=h
def Ag(h:Q (.int (if j>i then j else i)) st):W (cK .max [.int i,.int j] st) Q:=h
def Af(h:Q (.int (if j<i then j else i)) st):W (cK .min [.int i,.int j] st) Q:=h
def Ad(I:st[m]? =some (.lst xs))(J:0<=j/\j<=1000/\xs.length<=1000)(h:Q (.ref st.length) (st++[.lst (replicate j.toNat xs).flatten])):W (cj .mul (.ref m) (.int j) st) Q:=by simp only[cj,uq,I];rw[if_pos J];exact h
def nN{ps:List (Key×D)}(I:qV xs=some ps)(h:Q (.ref st.length) (st++[.dct<|xu ps])):W (cK .dict [.tup xs] st) Q:=by simp only[cK,mm,I];exact h
def qy(I:st[n]? =some (.dct kvs))(h:Q (.int kvs.length) st):W (cK .len [.ref n] st) Q:=by simp only[cK,mm,bz,c8,I];exact h
def yh{k:Bool}(e:cN st x ys=some k)(h:Q (.bl<|!k) st):W (bS .NotIn x (.tup ys) st) Q:=by simp only[bS,bz,e];exact h
def CZ(h:Q (.ref st.length) (st++[.lst<|cutD xs lo hi])):W (slice (.fl xs) lo hi st) Q:=h
end
section
variable{g:ft}{loc:Loc}{st:aV}{Q:Fl->aV->Prop}{ss:List S}{e a b:Ex}
def kP(h:W (run g e loc st) λd st1=>∃ds,bz st1 d=some ds/\ds.length=is.length/\W (execs g ss (j7 is ds loc) st1) Q):W (execs g (.unp is e::ss) loc st) Q:=
 cG (by
  exact aH<|h.mono λd st1 ⟨ds,e1,e2,q⟩=>aH (by unfold items?;simp only[e1];rw[if_pos e2];exact q))
def ir{rng:Bool}{body:List S}(h:W (run g e loc st) λd st1=>∃s,cu rng d=some s/\W (fG (λx I=>execs g body<|I.set n<|some x) s loc st1) (Kn g ss Q)):W (execs g (.for_ n rng e body::ss) loc st) Q:=
 cG (by exact aH<|h.mono λ_ _ ⟨s,e,q⟩=>aH (by rw[e];exact q))
def se{body:List S}(h:W (run g a loc st) λx st1=>W (run g b loc st1) λy J=>∃s,iN x y=some s/\W (fG (λx I=>execs g body<|I.set n<|some x) s loc J) (Kn g ss Q)):W (execs g (.for2 n a b body::ss) loc st) Q:=
 cG (by exact aH<|h.mono λ_ _ q=>aH<|q.mono λ_ _ ⟨s,e,q⟩=>aH (by rw[e];exact q))
def iL{body:List S}(h:W (run g e loc st) λd st1=>∃s,cu false d=some s/\W (fG (λx I=>bg (items? is.length x) λds=>execs g body<|j7 is ds I) s loc st1) (Kn g ss Q)):W (execs g (.forU is e body::ss) loc st) Q:=
 cG (by exact aH<|h.mono λ_ _ ⟨s,e,q⟩=>aH (by rw[e];exact q))
def nM{body:List S}(h:W (run g a loc st) λx st1=>W (run g b loc st1) λy J=>W (fG (λx I=>bg (items? is.length x) λds=>execs g body<|j7 is ds I) (.zp x y) loc J)<|Kn g ss Q):W (execs g (.forZ is a b body::ss) loc st) Q:=
 cG (by exact aH<|h.mono λ_ _ q=>aH<|q.mono λ_ _ q=>aH (show W _ _ from q))
def hW{ds:List D}{f:List D->M Fl}(I:ds.length=n)(h:W (f ds st) Q):W ((bg (items? n<|.tup ds) f) st) Q:=aH (by unfold items?;simp only[bz];rw[if_pos I];exact h)
theorem sd{f:D->Loc->M Fl}{s:Src}{L:List D}(I:Nat->Loc->aV->Prop)(nx:∀i loc st,I i loc st->iT s i st=some L[i]?)(step:∀i x loc st,L[i]? =some x->I i loc st->W (f x loc st) (Kf (I<|i+1) Q))
  (J:∀loc st,I L.length loc st->Q (.nx loc) st):∀k i loc st,i<=L.length->L.length<k+i->I i loc st->W (mB f s k i loc st) Q
 |0,i,loc,st,h1,h2,h=>by lia
 |k+1,i,loc,st,h1,h2,h=>by
  simp only[mB,nx i loc st h];cases e:L[i]? with
  |none=>
   have:i=L.length:=by have:=List.getElem?_eq_none_iff.mp e;lia
   subst this;exact J loc st h
  |some x=>
   have hi:=(au e).1;refine aH<|(step i x loc st e h).mono λr st1 q=>?_;cases r with
   |nx loc'=>exact sd I nx step J k _ loc' st1 hi (by lia) q
   |_=>exact q
def di{f:D->Loc->M Fl}{s:Src}(J:L.length<=dn s st)(I:Nat->Loc->aV->Prop)(h0:I 0 loc st)(nx:∀i loc st,I i loc st->iT s i st=some L[i]?)(step:∀i x loc st,L[i]? =some x->I i loc st->W (f x loc st) (Kf (I<|i+1) Q))
  (h:∀loc st,I L.length loc st->Q (.nx loc) st):W (fG f s loc st) Q:=by
 exact sd I nx step h _ 0 loc st (zero_le _) (by lia) h0
end
section
variable{st:aV}{Q:D->aV->Prop}{f:D->M (Option D)}
theorem kX{s:Src}{L:List D}{Q:List D->aV->Prop}(I:Nat->List D->aV->Prop)(nx:∀i acc st,I i acc st->iT s i st=some L[i]?)(step:∀i x acc st,L[i]? =some x->I i acc st->W (f x st) λo st1=>I (i+1) (match o with|some y=>acc++[y]|none=>acc) st1)
  (J:∀acc st,I L.length acc st->Q acc st):∀k i acc st,i<=L.length->L.length<k+i->I i acc st->W (gY f s k i acc st) Q
 |0,i,acc,st,h1,h2,h=>by omega
 |k+1,i,acc,st,h1,h2,h=>by
  simp only[gY,nx i acc st h];cases e:L[i]? with
  |none=>
   have:i=L.length:=by have:=List.getElem?_eq_none_iff.mp e;omega
   subst this;exact J acc st h
  |some x=>
   have hi:=(au e).1;refine aH<|(step i x acc st e h).mono λo st1 q=>?_;cases o with
   |none=>exact kX I nx step J k (i+1) acc st1 hi (by omega) q
   |some y=>exact kX I nx step J k (i+1) _ st1 hi (by omega) q
def eI{s:Src}(J:dn s st<=1000000)(Y:L.length<=dn s st)(I:Nat->List D->aV->Prop)(h0:I 0 [] st)(nx:∀i acc st,I i acc st->iT s i st=some L[i]?)(step:∀i x acc st,L[i]? =some x->I i acc st->W (f x st) λo st1=>I (i+1) (match o with|some y=>acc++[y]|none=>acc) st1)
  (h:∀acc st,I L.length acc st->Q (.ref st.length) (st++[.lst acc])):W (bY f s st) Q:=by
 unfold bY;rw[if_pos J];exact aH<|W.mono (kX I nx step h _ 0 [] st (zero_le _) (by omega) h0) λacc st q=>(show Q (.ref st.length) (st++[.lst acc]) from q)
def kQ{F:D->D}(Y:xs.length<=1000000)(h:∀x∈xs,∀st1,Gr st st1->W (f x st1) λo I=>o=some (F x)/\Gr st1 I)(k:∀I,Gr st I->Q (.ref I.length) (I++[.lst<|xs.map F])):W (bY f (.its xs) st) Q:=by
 refine eI (L:=xs) Y (af _) (λi acc st1=>Gr st st1/\acc=(xs.take i).map F) ⟨.refl _,rfl⟩ (λi acc st1 _=>rfl) (λi x acc st1 e J=>?_)<|λacc st1 J=>?_
 .obtain⟨g,rfl⟩:=J;refine(h x (ah e) st1 g).mono λo I q=>?_;obtain⟨rfl,Z⟩:=q;refine⟨g.trans Z,?_⟩;rw[take_add_one,e];simp
 .obtain⟨g,rfl⟩:=J;rw[take_length];exact k st1 g
def qw{F:D->D}(Y:st[n]? =some (.lst xs))(hl:xs.length<=1000000)(h:∀x∈xs,∀st1,Gr st st1->W (f x st1) λo I=>o=some (F x)/\Gr st1 I)(k:∀I,Gr st I->Q (.ref I.length) (I++[.lst<|xs.map F])):W (bY f (.at n) st) Q:=by
 have Z:dn (.at n) st=xs.length:=by simp only[dn,Y]
 refine eI (L:=xs) (by rw[Z];exact hl) (by rw[Z];exact af _) (λi acc st1=>Gr st st1/\acc=(xs.take i).map F) ⟨.refl _,rfl⟩ (λi acc st1 J=>by simp only[iT,J.1.at Y]) (λi x acc st1 e J=>?_)<|λacc st1 J=>?_
 .obtain⟨g,rfl⟩:=J;refine(h x (ah e) st1 g).mono λo I q=>?_;obtain⟨rfl,g2⟩:=q;refine⟨g.trans g2,?_⟩;rw[take_add_one,e];simp
 .obtain⟨g,rfl⟩:=J;rw[take_length];exact k st1 g
def cY{Q:Option D->aV->Prop}(h:W (run g e loc st) λy st1=>Q (some y) st1):W ((bg (run g e loc) λy=>ret<|some y) st) Q:=aH<|h.mono λ_ _ q=>q
def kq{f:D->D->M D}{Q:Option D->aV->Prop}(h:W (f x y st) λz st1=>Q (some z) st1):W (pairF f (.tup [x,y]) st) Q:=aH<|h.mono λ_ _ q=>q
end
mutual
noncomputable def EC:D->Nat
 | .tup xs=>uR xs+1
 |_=>0
noncomputable def uR:List D->Nat
 |[]=>0
 |d::ds=>max (EC d)<|uR ds
end
mutual
theorem tN{st:aV}:∀(n:Nat)(d:D),sT d=true->EC d<n->dX n st d d=some true
 |0,_,_,h=>absurd h<|not_lt_zero _
 |n+1,.tup xs,h,hd=>by
  have h:ig xs=true:=h;have hd:uR xs+1<n+1:=hd;show(match shape st (.tup xs),shape st (.tup xs) with|a,b=>dX (n+1) st (.tup xs)<|.tup xs)=_
  dsimp only;have:=i8 (st:=st) n xs h (by omega)
  unfold dX;simp only[shape];exact this
 |n+1,.non,_,_=>by simp[dX,shape,rP]
 |n+1,.bl _,_,_=>by simp[dX,shape,rP]
 |n+1,.int _,_,_=>by simp[dX,shape,rP]
 |n+1,.str _,_,_=>by simp[dX,shape,rP]
 |_+1,.fl _,h,_=>by cases h
 |_+1,.ref _,h,_=>by cases h
theorem i8{st:aV}:∀(n:Nat)(xs:List D),ig xs=true->uR xs<n->fm (rq<|dX n st) xs xs=some true
 |_,[],_,_=>rfl
 |n,d::ds,h,hd=>by
  have h:(sT d&&ig ds)=true:=h;rw[and_eq_true] at h;have hd:max (EC d) (uR ds)<n:=hd
  have h1:rq (dX n st) d d=some true:=by
   unfold rq;split
   .rw[if_pos rfl]
   .exact tN n d h.1 (by omega)
  unfold fm;rw[h1,i8 n ds h.2 (by omega)]
  rfl
end
theorem kG{m:Nat}:∀{xs:List D},(∀x∈xs,EC x<=m)->uR xs<=m
 |[],_=>zero_le _
 |x::xs,h=>by
  show max _ _<=m;have h1:=h x (.head _);have J:=kG λy I=>h y<|.tail _ I
  lia
theorem lC:∀{xs:List D},(∀x∈xs,sT x=true)->ig xs=true
 |[],_=>rfl
 |x::xs,h=>by show(sT x&&ig xs)=true;rw[h x<|.head _,lC λy I=>h y<|.tail _ I];rfl
local macro_rules| `(tactic|walk_at "ev1")=> `(tactic|with_reducible first
 |refine aN ?_|(refine aC (by with_unfolding_all rfl) ?_)|refine aQ ?_|refine br ?_|refine vB ?_|refine aZ ?_|refine w_not ?_|refine w_and ?_|refine w_or ?_|refine bn ?_|refine sf ?_|refine bu ?_|refine ip ?_|refine gm ?_
 |refine eX ?_|refine ck ?_|refine bH ?_|refine dH ?_|refine iM ?_|refine fv ?_|refine ag ?_|refine ab ?_|refine cY ?_|refine vt ?_|refine r_ ?_|refine vp ?_|refine C6 ?_|refine aW ?_|refine bV ?_
 |refine aR ?_|refine a_ ?_|refine dB ?_|refine bo ?_|refine ij ?_|refine eE ?_|refine kP ?_|refine ir ?_|refine se ?_|refine iL ?_|refine nM ?_|refine bv ?_|refine cI ?_|refine jT ?_|refine bi ?_|refine dE ?_|refine kf_rt ?_
 |refine w_add ?_|refine w_sub ?_|refine jO ?_|refine Ae ?_|refine w_lt ?_|refine AK ?_|refine AN ?_|refine iq ?_|refine w_lenF ?_|refine cX ?_|refine o7 ?_|refine vv ?_|refine Ag ?_|refine Af ?_
 |(refine w_mul (by omega) ?_)|(refine w_mod (by omega) ?_)|(refine cQ (by omega) ?_)|(refine w_pow (by decide) ?_)|(refine bJ (by with_unfolding_all rfl) ?_))
local macro_rules| `(tactic|walk_at "ev")=> `(tactic|repeat (walk_at "ev1"))
namespace K20
variable{P:D->Prop}{d e kd t v x y z:D}{f n1 n2:Str}{c i j l m m1 m2 n p r s:Nat}{a b st st' st1:aV}{ss:List S}{loc:Loc}{g:ft}{o:O}{es rows tk xs ys:List D}{qs rs:List Nat}{Q:D->aV->Prop}{kv kvs:List (Key×D)}{A B num skip w:Int}{hi lo:Option Int}{x13 x14 x15 x2 x5 x6 x7 x8 x9:Option D}{ns:List Str}
noncomputable abbrev jI(i:Int):Ex:= .c<|.int i
noncomputable abbrev jS(s:Str):Ex:= .c<|.str s
noncomputable abbrev mT:List (Str×Nat):=[("Row",21),("Jump",26),("Branch",29),("Back",33),("Raise",36),("Risk",38),("Block",42),("Function",46),("Code",49)]
noncomputable abbrev mE:List (Str×Nat):=[("Jump",27),("Branch",30),("Back",22),("Raise",22),("Risk",39)]
noncomputable abbrev mR:List (Str×Nat):=[("Jump",23),("Branch",31),("Back",34),("Raise",23),("Risk",40)]
noncomputable abbrev mV:List (Str×Nat):=[("Jump",24),("Branch",24),("Back",24),("Raise",24),("Risk",24)]
noncomputable abbrev mW:List (Str×Nat):=[("Function",47),("Code",51)]
noncomputable abbrev oE:Nat:=0
def fI:Fn:=⟨2,3,[.set 2<|.bin .mod (.bin .add (.bin .add (.bin .mul (.bin .mod (.v 0)<|jI 2147483629)<|jI 48271)<|.bin .mul (.v 1)<|jI 7919)<|jI 104729)<|jI 2147483629,.set 2<|.bin .mod (.bin .add (.bin .add (.bin .mul (.bin .mod (.bin .mul (.v 2)<|.v 2)<|jI 2147483629)<|jI 16807)<|.bin .mul (.v 1)<|jI 104729)<|jI 11)<|jI 2147483587,.ret<|.bin .mod (.bin .mul (.v 2)<|.v 2)<|jI 2147483587]⟩
noncomputable abbrev lN:Nat:=1
def eh:Fn:=⟨2,6,[.set 2<|.lst [],.for_ 3 false (.v 0) [.set 4<|.v 3,.for_ 5 true (jI 40) [.ite (.cmp .Lt (.v 3)<|.bin .pow (jI 10)<|jI 18) [.app (.v 2)<|.bin .mod (.fn 0 [.v 3,.bt .len [.v 2]])<|jI 1009] [.ite (.cmp .Gt (.v 4)<|jI 0) [.app (.v 2)<|.bin .mod (.v 4)<|jI 1009,.set 4<|.bin .fdiv (.v 4)<|jI 1009] []]]],.whil (.cmp .Lt (.bt .len [.v 2])<|.v 1) [.app (.v 2)<|.bin .mod (.fn 0 [.bt .len [.v 2],.v 1])<|jI 1009],.ret<|.sl (.v 2) (.v 1) (.v 1) false true]⟩
noncomputable abbrev jU:Nat:=2
def gK:Fn:=⟨1,1,[.ite (.cmp .Eq (.v 0)<|.lst []) [.ret<|jI 0] [],.ret<|.pop<|.v 0]⟩
noncomputable abbrev rF:Nat:=3
def iz:Fn:=⟨1,1,[.setix (.v 0) (jS "count")<|.bin .add (.ix (.v 0)<|jS "count")<|jI 1,.ret<|.cmp .Eq (.ix (.v 0)<|jS "count")<|.ix (.v 0)<|jS "at"]⟩
noncomputable abbrev lM:Nat:=4
def eg:Fn:=⟨4,6,[.set 4<|.fn 2 [.v 0],.ite (.fn 3 [.v 1]) [.set 5<|.lst [.tup [jS "name",jI 77],.tup [jS "num",.c<|.bl true],.tup [jS "truth",jI 1],.tup [jS "num",jI 3],.tup [jS "truth",.c<|.bl false],.tup [jS "name",.bin .mod (.v 4)<|jI 12]],.ret<|.ix (.v 5)<|.bin .mod (.bin .fdiv (.v 4)<|jI 12)<|jI 6] [],.set 5<|.keq 2 3,.ite (.or (.cmp .NotIn (.v 3)<|.tup [.tup [jS "num"],.tup [jS "truth"]])<|.and (.cmp .NotEq (.v 5)<|.lst [])<|.cmp .Gt (.bin .mod (.v 4)<|jI 4)<|jI 0) [.ret<|.tup [jS "name",.ix (.bin .add (.v 5)<|.lst [jI 78])<|.bin .mod (.bin .fdiv (.v 4)<|jI 4)<|.bt .max [jI 1,.bt .len [.v 5]]]] [],.ite (.cmp .Eq (.v 3)<|.tup [jS "num"]) [.ret<|.tup [jS "num",.bin .sub (.bin .fdiv (.v 4)<|jI 4)<|jI 9]] [],.ret<|.tup [jS "truth",.cmp .Eq (.bin .mod (.bin .fdiv (.v 4)<|jI 4)<|jI 2)<|jI 0]]⟩
noncomputable abbrev jB:Nat:=5
noncomputable def dq:Fn:=⟨2,6,[.set 2<|.tup [jS "num"],.set 3<|.tup [jS "truth"],.set 4<|.tup [jS "row",jI 2],.set 5<|.lst [.tup [jS "add",.c<|.non,.tup [.v 2,.v 2],.v 2],.tup [jS "less",.c<|.non,.tup [.v 2,.v 2],.v 3],.tup [jS "neg",.c<|.non,.tup [.v 2],.v 2]],.set 5<|.bin .add (.v 5)<|.lst [.tup [jS "and",.c<|.non,.tup [.v 3,.v 3],.v 3],.tup [jS "copy",.c<|.non,.tup [.v 2],.v 2]],.app (.v 5)<|.tup [jS "copy",.c<|.non,.tup [.v 3],.v 3],.set 5<|.bin .add (.v 5)<|.lst [.tup [jS "make",.v 4,.tup [.v 2,.v 2],.v 4],.tup [jS "sub",.c<|.non,.tup [.v 2,.v 2],.v 2],.tup [jS "log",.c<|.non,.tup [.v 2],.c<|.non]],.set 5<|.bin .add (.v 5)<|.lst [.tup [jS "log",.c<|.non,.tup [.v 3],.c<|.non],.tup [jS "tick",.c<|.non,.tup [],.c<|.non],.tup [jS "same",.c<|.non,.tup [.v 2,.v 2],.v 3]],.ite (.inV (.v 4)<|.v 1) [.set 5<|.bin .add (.v 5)<|.lst [.tup [jS "get",jI 1,.tup [.v 4],.v 2],.tup [jS "put",jI 0,.tup [.v 4,.v 2],.v 4],.tup [jS "copy",.c<|.non,.tup [.v 4],.v 4]]] [],.ret<|.ix (.v 5)<|.bin .mod (.v 0)<|.bt .len [.v 5]]⟩
noncomputable abbrev Gk:List S:=[.setix (.v 2) (.v 11)<|.v 8,.setix (.v 3) (.v 11)<|.v 8,.ret<|.tup [.v 11,.v 5,.v 6,.v 9]]
abbrev Gm:List S:= .ite (.cmp .Is (.v 8)<|.c<|.non) [.ret<|.tup [.c<|.non,.v 5,.v 6,.v 9]] []:: .set 11 (.bt .len [.v 3]):: .ite (.fn 3 [.v 1]) [.set 11<|.bin .mod (.bin .fdiv (.v 4)<|jI 16)<|.bin .add (.v 11)<|jI 2,.set 8<|.ix (.lst [.tup [jS "num"],.tup [jS "truth"]])<|.bin .mod (.v 4)<|jI 2] []::Gk
abbrev Go:List S:= .ite (.fn 3 [.v 1]) [.set 9<|.sl (.v 9) (jI 1) (jI 1) true false] []::Gm
noncomputable abbrev jD:Nat:=6
def dw:Fn:=⟨4,12,.set 4 (.fn 2 [.v 0]):: .unp [5,6,7,8] (.fn 5 [.v 4,.v 2]):: .set 9 (.bt .tuple [.comp false (.v 7)<|.fn 4 [.v 1,.v 2,.v 3,.v 0]]):: .ite (.fn 3 [.v 1]) [.set 10<|.lst [.tup [jS "div",.c<|.non],.tup [jS "add",jI 0],.tup [jS "get",jI 2],.tup [jS "none",.c<|.non],.tup [jS "tick",.c<|.non],.tup [jS "log",.c<|.non],.tup [jS "call",jS "main"]],.unp [5,6]<|.ix (.v 10)<|.bin .mod (.bin .fdiv (.v 4)<|jI 16)<|jI 7] []::Go⟩
noncomputable abbrev GC:List S:=[.ret<|.tup [.v 4,.v 7]]
abbrev GD:List S:= .set 7 (.bt .tuple [.comp false (.v 6)<|.fn 4 [.v 1,.v 2,.v 3,.v 0]]):: .ite (.fn 3 [.v 1]) [.set 7<|.sl (.v 7) (jI 1) (jI 1) true false] []::GC
abbrev GE:List S:= .set 6 (.lst []):: .ite (.chain .LtE .Lt (jI 0) (.v 4)<|.bt .len [.v 3]) [.set 6<|.sl (.compU (.ix (.v 3)<|.v 4)<|.v 1) (.v 5) (.v 5) true false] []::GD
noncomputable abbrev pV:Nat:=7
def gM:Fn:=⟨6,8,.ite (.fn 3 [.v 1]) [.set 4<|.ix (.lst [jI 0,.bt .len [.v 3],jI<|-1,jI 99,jI 1])<|.bin .mod (.fn 2 [.v 0])<|jI 5] []::GE⟩
abbrev GA:List S:=[.set 12<|.bt .tuple [.comp true (jI 2)<|.fn 4 [.v 1,.v 2,.v 3,.tup [jS "num"]]],.set 13<|.fn 7 [.v 0,.v 1,.v 2,.v 3,.v 7,jI 1],.ite (.cmp .Eq (.bin .mod (.v 5)<|jI 8)<|jI 7) [.set 14<|.ix (.lst [jS "f",jS "main",jS "g"])<|.bin .mod (.bin .fdiv (.v 5)<|jI 128)<|.ix (.lst [jI 3,jI 2])<|.bt .int [.cmp .Lt (.bin .mod (.v 5)<|jI 16)<|jI 8],.ret<|.tup [jS "risk",jS "call",.v 14,.sl (.v 12) (jI 1) (jI 1) false true,.v 13,.bt .tuple [.v 11]]] [],.ret<|.tup [jS "risk",.ix (.lst [jS "div",jS "mul",jS "mod"])<|.bin .mod (.bin .fdiv (.v 5)<|jI 128)<|jI 3,.c<|.non,.v 12,.v 13,.bt .tuple [.v 11]]]
abbrev GB:List S:= .set 11 (.bin .mul (.lst [.tup [jS "zero",.fn 7 [.v 0,.v 1,.v 2,.v 3,.v 8,jI 0]]])<|.bin .mod (.bin .fdiv (.v 5)<|jI 64)<|jI 2):: .set 11 (.bin .add (.v 11)<|.bin .mul (.lst [.tup [jS "odd",.fn 7 [.v 0,.v 1,.v 2,.v 3,.v 8,jI 0]]])<|.bin .mod (.bin .fdiv (.v 5)<|jI 128)<|jI 2):: .ite (.fn 3 [.v 1]) [.set 11<|.bin .add (.v 11)<|.sl (.v 11) (jI 1) (jI 1) false true] []::GA
noncomputable abbrev rG:Nat:=8
def iA:Fn:=⟨5,15,.set 5 (.fn 2 [.v 0]):: .set 6 (.bt .len [.v 3]):: .set 7 (.bt .min [.bin .add (.v 4)<|jI 1,.bin .sub (.v 6)<|jI 1]):: .ite (.or (.cmp .Eq (.v 6)<|jI 1)<|.cmp .Eq (.bin .mod (.v 5)<|jI 8)<|jI 0) [.ret<|.ix (.lst [.tup [jS "back",.fn 4 [.v 0,.v 1,.v 2,.tup [jS "num"]]],.tup [jS "raise",jS "odd"]])<|.bin .mod (.bin .fdiv (.v 5)<|jI 8)<|jI 2] []:: .set 8 (.bin .add (jI 1)<|.bin .mod (.bin .fdiv (.v 5)<|jI 8)<|.bin .sub (.v 6)<|jI 1):: .set 9 (.fn 7 [.v 0,.v 1,.v 2,.v 3,.v 7,jI 0]):: .ite (.cmp .Lt (.bin .mod (.v 5)<|jI 8)<|jI 3) [.ret<|.tup [jS "jump",.v 9]] []:: .ite (.cmp .Lt (.bin .mod (.v 5)<|jI 8)<|jI 5) [.set 10<|.fn 4 [.v 0,.v 1,.v 2,.tup [jS "truth"]],.ret<|.tup [jS "branch",.v 10,.v 9,.fn 7 [.v 0,.v 1,.v 2,.v 3,.v 8,jI 0]]] []:: .ite (.or (.cmp .Eq (.sl (.ix (.v 3)<|.v 7) (jI 1) (jI 1) false true)<|.lst [])<|.cmp .NotEq (.ix (.ix (.ix (.v 3)<|.v 7)<|jI 0)<|jI 1)<|.tup [jS "num"]) [.ret<|.tup [jS "back",.fn 4 [.v 0,.v 1,.v 2,.tup [jS "num"]]]] []::GB⟩
noncomputable abbrev kf:Nat:=9
def dP:Fn:=⟨2,3,[.set 2<|.lst [],.ite (.cmp .Eq (.ix (.v 0)<|jI 0)<|jS "jump") [.set 2<|.lst [.ix (.v 0)<|jI 1]] [],.ite (.cmp .Eq (.ix (.v 0)<|jI 0)<|jS "branch") [.set 2<|.lst [.ix (.v 0)<|jI 2,.ix (.v 0)<|jI 3]] [],.ite (.cmp .Eq (.ix (.v 0)<|jI 0)<|jS "risk") [.set 2<|.bin .add (.lst [.ix (.v 0)<|jI 4])<|.compU (.ix (.v 0)<|jI 5)<|.v 1] [],.ret<|.cmp .NotEq (.compIf (.v 2) (.cmp .LtE (.ix (.v 0)<|jI 0)<|.v 2)<|.v 0)<|.lst []]⟩
noncomputable abbrev bB:List S:=[.app (.v 10)<|.tup [.bt .tuple [.compU (.ix (.v 4)<|.v 7)<|.v 0],.bt .tuple [.v 14],.v 15]]
abbrev bA:List S:= .set 15 (.fn 8 [.v 0,.v 1,.v 12,.v 4,.v 7]):: .ite (.and (.fn 9 [.v 15,.v 7])<|.not<|.fn 3 [.v 1]) [.app (.v 14)<|.tup [.c<|.non,jS "tick",.c<|.non,.tup []]] []::bB
abbrev bT:List S:= .set 12 (.bt .dict [.v 11]):: .forU [13,9] (.ix (.v 4)<|.v 7) [.setix (.v 12) (.v 13)<|.v 9]:: .set 14 (.lst []):: .for_ 5 true (.bin .mod (.fn 2 [.v 0])<|jI 4) [.app (.v 14)<|.fn 6 [.v 0,.v 1,.v 12,.v 3]]:: .ite (.cmp .Eq (.v 7)<|jI 0) [.set 11<|.bt .dict [.v 12]] []::bA
noncomputable abbrev CN:List S:=[.ret<|.tup [.v 6,.tup [jS "num"],.bt .tuple [.sit<|.v 3],.bt .tuple [.v 10]]]
abbrev Gx:List S:= .for2 7 (jI 1) (.v 2) [.app (.v 4)<|.lst [],.for_ 5 true (.bin .mod (.fn 2 [.v 0])<|jI 3) [.set 8<|.bin .mod (.fn 2 [.v 0])<|jI 8,.set 9<|.ix (.lst [.tup [jS "num"],.tup [jS "truth"],.tup [jS "row",jI 2]])<|.ix (.lst [jI 0,jI 1,jI 0,jI 0,jI 1,jI 0,jI 0,jI 2])<|.v 8,.app (.ix (.v 4)<|.v 7)<|.tup [.bt .len [.v 3],.v 9],.setix (.v 3) (.bt .len [.v 3])<|.v 9]]:: .set 10 (.lst []):: .set 11 .emp:: .for_ 7 true (.v 2) bT:: .ite (.fn 3 [.v 1]) [.setix (.v 3) (jI 50)<|.tup [jS "num"]] []::CN
noncomputable abbrev ke:Nat:=10
def dO:Fn:=⟨2,16,.set 2 (.bin .add (jI 1)<|.bin .mod (.fn 2 [.v 0])<|jI 5):: .set 3 .emp:: .set 4 (.lst [.lst []]):: .for_ 5 true (.ix (.lst [jI 1,jI 1,jI 0,jI 2])<|.bin .mod (.fn 2 [.v 0])<|jI 4) [.setix (.v 3) (.v 5)<|.ix (.lst [.tup [jS "num"],.tup [jS "num"],.tup [jS "truth"]])<|.bin .mod (.fn 2 [.v 0])<|jI 3,.app (.ix (.v 4)<|jI 0)<|.tup [.v 5,.ix (.v 3)<|.v 5]]:: .set 6 (.bt .tuple [.compU (.ix (.v 4)<|jI 0)<|.v 1]):: .ite (.fn 3 [.v 1]) [.set 6<|.ix (.lst [.bin .add (.v 6)<|.tup [.tup [jS "num"]],.sl (.v 6) (jI 1) (jI 1) true false,.bin .mul (.tup [.tup [jS "truth"]])<|.bt .len [.v 6]])<|.bin .mod (.fn 2 [.v 0])<|jI 3] []::Gx⟩
noncomputable abbrev j_:Nat:=11
def dN:Fn:=⟨1,1,[.ite (.cmp .Eq (.ix (.v 0)<|jI 0)<|jS "jump") [.ret<|.new "Jump" 25 [.ix (.v 0)<|jI 1]] [],.ite (.cmp .Eq (.ix (.v 0)<|jI 0)<|jS "branch") [.ret<|.new "Branch" 28 [.ix (.v 0)<|jI 1,.ix (.v 0)<|jI 2,.ix (.v 0)<|jI 3]] [],.ite (.cmp .Eq (.ix (.v 0)<|jI 0)<|jS "back") [.ret<|.new "Back" 32 [.ix (.v 0)<|jI 1]] [],.ite (.cmp .Eq (.ix (.v 0)<|jI 0)<|jS "raise") [.ret<|.new "Raise" 35 [.ix (.v 0)<|jI 1]] [],.ret<|.new "Risk" 37 [.ix (.v 0)<|jI 1,.ix (.v 0)<|jI 2,.bt .list [.ix (.v 0)<|jI 3],.ix (.v 0)<|jI 4,.bt .list [.ix (.v 0)<|jI 5]]]⟩
noncomputable abbrev pU:Nat:=12
def gL:Fn:=⟨1,10,[.unp [1,2,3,4]<|.v 0,.set 5<|.lst [],.forU [6,7,8] (.v 4) [.set 9<|.comp false (.v 7)<|.new "Row" 20 [.ix (.v 0)<|jI 0,.ix (.v 0)<|jI 1,.ix (.v 0)<|jI 2,.ix (.v 0)<|jI 3],.app (.v 5)<|.new "Block" 41 [.bt .list [.v 6],.v 9,.fn 11 [.v 8]]],.ret<|.new "Function" 45 [.bt .list [.v 1],.v 2,.bt .dict [.v 3],.v 5]]⟩
noncomputable abbrev oF:Nat:=13
def fJ:Fn:=⟨1,1,[.ite (.cmp .Eq (.ix (.v 0)<|jI 0)<|jS "jump") [.ret<|.lst [.tup [.ix (.v 0)<|jI 1,.c<|.bl false]]] [],.ite (.cmp .Eq (.ix (.v 0)<|jI 0)<|jS "branch") [.ret<|.lst [.tup [.ix (.v 0)<|jI 2,.c<|.bl false],.tup [.ix (.v 0)<|jI 3,.c<|.bl false]]] [],.ite (.cmp .Eq (.ix (.v 0)<|jI 0)<|jS "risk") [.ret<|.bin .add (.lst [.tup [.ix (.v 0)<|jI 4,.c<|.bl true]])<|.compU (.ix (.v 0)<|jI 5)<|.tup [.v 1,.c<|.bl false]] [],.ret<|.lst []]⟩
noncomputable abbrev oC:Nat:=14
def fH:Fn:=⟨1,1,[.ite (.cmp .In (.ix (.v 0)<|jI 0)<|.tup [jS "branch",jS "back"]) [.ret<|.lst [.ix (.v 0)<|jI 1]] [],.ite (.cmp .Eq (.ix (.v 0)<|jI 0)<|jS "risk") [.ret<|.bt .list [.ix (.v 0)<|jI 3]] [],.ret<|.lst []]⟩
noncomputable abbrev jC:Nat:=15
def du:Fn:=⟨2,8,[.set 2<|.fn 13 [.v 1],.set 3<|.fn 14 [.v 1],.set 4<|.bt .list [.v 3],.forU [5,6] (.v 2) [.set 4<|.bin .add (.v 4)<|.bt .list [.ix (.v 5)<|jI 1]],.ite (.or (.not<|.isk (.v 0) ["Jump","Branch","Back","Raise","Risk"])<|.or (.cmp .NotEq (.meth (.v 0) "told" mT [])<|.v 1)<|.or (.cmp .NotEq (.meth (.v 0) "edges" mE [])<|.v 2)<|.cmp .NotEq (.meth (.v 0) "reads" mR [])<|.v 3) [.ret<|.c<|.bl false] [],.set 7<|.meth (.v 0) "every_read" mV [],.ite (.or (.not<|.isi (.v 7) .list)<|.cmp .NotEq (.v 7)<|.v 4) [.ret<|.c<|.bl false] [],.clr<|.v 7,.clr<|.meth (.v 0) "edges" mE [],.ret<|.and (.cmp .Eq (.meth (.v 0) "every_read" mV [])<|.v 4)<|.cmp .Eq (.meth (.v 0) "edges" mE [])<|.v 2]⟩
noncomputable abbrev iy:Nat:=16
def cR:Fn:=⟨2,8,[.unp [2,3,4]<|.v 1,.ite (.or (.cmp .NotEq (.meth (.v 0) "told" mT [])<|.v 1)<|.or (.cmp .NotEq (.fld (.v 0) "params" [] ["Block"])<|.v 2)<|.not<|.isi (.fld (.v 0) "rows" [] ["Block"]) .tuple) [.ret<|.c<|.bl false] [],.ite (.or (.cmp .NotEq (.comp false (.fld (.v 0) "rows" [] ["Block"])<|.meth (.v 0) "told" mT [])<|.bt .list [.v 3])<|.not<|.fn 15 [.fld (.v 0) "end" [] ["Block"],.v 4]) [.ret<|.c<|.bl false] [],.forZ [5,6] (.fld (.v 0) "rows" [] ["Block"]) (.v 3) [.ite (.or (.cmp .NotEq (.tup [.fld (.v 5) "name" [] ["Row"],.fld (.v 5) "op" [] ["Row","Risk"],.fld (.v 5) "extra" [] ["Row","Risk"],.fld (.v 5) "operands" [] ["Row"]])<|.v 6)<|.not<|.isk (.v 5) ["Row"]) [.ret<|.c<|.bl false] []],.set 7<|.meth (.v 0) "given" [("Block",43)] [],.ite (.or (.not<|.isi (.v 7) .list)<|.cmp .NotEq (.v 7)<|.bin .add (.bt .list [.v 2])<|.compIf (.v 3) (.cmp .IsNot (.ix (.v 0)<|jI 0)<|.c<|.non)<|.ix (.v 0)<|jI 0) [.ret<|.c<|.bl false] [],.app (.v 7)<|jI 5,.set 1<|.meth (.v 0) "ticks" [("Block",44)] [],.ite (.or (.not<|.isi (.v 1) .bool)<|.cmp .NotEq (.v 1)<|.cmp .In (jS "tick")<|.comp false (.v 3)<|.ix (.v 0)<|jI 1) [.ret<|.c<|.bl false] [],.ret<|.cmp .Eq (.meth (.v 0) "given" [("Block",43)] [])<|.sl (.v 7) (jI<|-1) (jI<|-1) false true]⟩
noncomputable abbrev gi:Nat:=17
def cB:Fn:=⟨2,8,[.unp [2,3,4,5]<|.v 1,.ite (.or (.cmp .NotEq (.meth (.v 0) "told" mT [])<|.v 1)<|.cmp .NotEq (.tup [.fld (.v 0) "takes" [] ["Function"],.fld (.v 0) "gives" [] ["Function"]])<|.tup [.v 2,.v 3]) [.ret<|.c<|.bl false] [],.ite (.cmp .NotEq (.fld (.v 0) "kinds" [] ["Function"])<|.bt .dict [.v 4]) [.ret<|.c<|.bl false] [],.ite (.or (.not<|.isi (.fld (.v 0) "blocks" [] ["Function"]) .tuple)<|.cmp .NotEq (.bt .len [.fld (.v 0) "blocks" [] ["Function"]])<|.bt .len [.v 5]) [.ret<|.c<|.bl false] [],.forZ [6,7] (.fld (.v 0) "blocks" [] ["Function"]) (.v 5) [.ite (.not<|.fn 16 [.v 6,.v 7]) [.ret<|.c<|.bl false] []],.ret<|.cmp .Eq (.meth (.v 0) "width" mW [])<|.sum3 (.v 5)<|.bin .add (.bt .len [.v 1])<|jI 1]⟩
noncomputable abbrev mr:Nat:=18
def eQ:Fn:=⟨1,10,[.unp [1,2,3,4]<|.v 0,.set 5<|.bt .dict [.v 3],.set 6<|.lst [.ix (.fld (.fn 12 [.v 0]) "blocks" [] ["Function"])<|jI 0],.set 7<|.new "Function" 45 [.v 1,.v 2,.v 5,.v 6],.set 8<|.dict ["f"] [.v 7],.set 9<|.new "Code" 48 [.v 8],.setix (.v 5) (jI 99)<|.tup [jS "truth"],.clr<|.v 6,.clr<|.v 8,.clr<|.meth (.v 9) "names" [("Code",50)] [],.ret<|.and (.cmp .NotIn (jI 99)<|.fld (.v 7) "kinds" [] ["Function"])<|.and (.cmp .Eq (.bt .len [.fld (.v 7) "blocks" [] ["Function"]])<|jI 1)<|.cmp .Eq (.meth (.v 9) "names" [("Code",50)] [])<|.lst [jS "f"]]⟩
def wX:List S:=[.set 1<|.fn 1 [.sl (.v 0) (jI 62) (jI 62) false true,jI 200],.set 2<|.fn 2 [.v 1],.set 3<|.dict ["count","at"] [jI 0,.ix (.lst [jI 0,.bin .add (jI 1)<|.bin .mod (.bin .fdiv (.v 2)<|jI 2)<|jI 90])<|.bin .mod (.v 2)<|jI 2],.set 4<|.fn 10 [.v 1,.v 3],.set 5<|.fn 10 [.v 1,.dict ["count","at"] [jI 0,jI 0]],.set 6<|.ix (.lst [.lst [jS "main",jS "f"],.lst [jS "f",jS "main"],.lst [jS "f",jS "apple"],.lst [jS "b",jS "ba"]])<|.bin .mod (.fn 2 [.v 1])<|jI 4,.set 7<|.new "Code" 48 [.dict2 (.ix (.v 6)<|jI 0) (.fn 12 [.v 4]) (.ix (.v 6)<|jI 1)<|.fn 12 [.v 5]],.ite (.or (.not<|.fn 17 [.fn 12 [.v 4],.v 4])<|.not<|.fn 17 [.ix (.fld (.v 7) "functions" [] ["Code"])<|.ix (.v 6)<|jI 0,.v 4]) [.ret<|.c<|.bl false] []]
def uz:List S:=[.ite (.or (.cmp .NotEq (.meth (.v 7) "told" mT [])<|.v 8)<|.or (.cmp .NotEq (.meth (.v 7) "names" [("Code",50)] [])<|.bt .sorted [.v 6])<|.not<|.fn 18 [.v 4]) [.ret<|.c<|.bl false] [],.ite (.cmp .NotEq (.meth (.v 7) "width" mW [])<|.vmx (.fld (.v 7) "functions" [] ["Code"])<|.meth (.v 0) "width" mW []) [.ret<|.c<|.bl false] [],.set 9<|.meth (.v 7) "with_function" [("Code",53)] [.ix (.v 6)<|jI 0,.fn 12 [.v 5]],.ite (.or (.not<|.isk (.v 9) ["Code"])<|.or (.cmp .NotEq (.meth (.ix (.fld (.v 9) "functions" [] ["Code"])<|.ix (.v 6)<|jI 0) "told" mT [])<|.v 5)<|.cmp .NotEq (.meth (.v 7) "told" mT [])<|.v 8) [.ret<|.c<|.bl false] [],.set 10<|.meth (.v 7) "with_function" [("Code",53)] [jS "new",.fn 12 [.v 4]],.ret<|.and (.cmp .Eq (.meth (.ix (.fld (.v 9) "functions" [] ["Code"])<|.ix (.v 6)<|jI 1) "told" mT [])<|.v 5)<|.cmp .Eq (.meth (.v 10) "names" [("Code",50)] [])<|.bt .sorted [.bin .add (.v 6)<|.lst [jS "new"]]]
def tM:Fn:=⟨1,11,wX++ .stop::uz⟩
noncomputable abbrev rJ:Nat:=20
noncomputable def iC:Fn:=⟨5,5,[.setf (.v 0) "name" (.v 1) [] ["Row"],.setf (.v 0) "op" (.v 2) [] ["Row","Risk"],.setf (.v 0) "extra" (.v 3) [] ["Row","Risk"],.setf (.v 0) "operands" (.bt .tuple [.v 4]) [] ["Row"]]⟩
noncomputable abbrev rH:Nat:=21
noncomputable def iB:Fn:=⟨1,1,[.ret<|.tup [.fld (.v 0) "name" [] ["Row"],.fld (.v 0) "op" [] ["Row","Risk"],.fld (.v 0) "extra" [] ["Row","Risk"],.fld (.v 0) "operands" [] ["Row"]]]⟩
noncomputable def gT:Fn:=⟨1,1,[.ret<|.lst []]⟩
noncomputable def gS:Fn:=⟨1,1,[.ret<|.lst []]⟩
noncomputable abbrev jF:Nat:=24
def dA:Fn:=⟨1,4,[.set 1<|.meth (.v 0) "reads" mR [],.forU [2,3] (.meth (.v 0) "edges" mE []) [.ext (.v 1)<|.ix (.v 2)<|jI 1],.ret<|.v 1]⟩
noncomputable abbrev pX:Nat:=25
noncomputable def gR:Fn:=⟨2,2,[.setf (.v 0) "edge" (.v 1) [] ["Jump","Risk"]]⟩
def gQ:Fn:=⟨1,1,[.ret<|.tup [jS "jump",.fld (.v 0) "edge" [] ["Jump","Risk"]]]⟩
noncomputable def fO:Fn:=⟨1,1,[.ret<|.lst [.tup [.fld (.v 0) "edge" [] ["Jump","Risk"],.c<|.bl false]]]⟩
noncomputable abbrev mw:Nat:=28
noncomputable def eS:Fn:=⟨4,4,[.setf (.v 0) "test" (.v 1) [] ["Branch"],.setf (.v 0) "yes" (.v 2) [] ["Branch"],.setf (.v 0) "no" (.v 3) [] ["Branch"]]⟩
def eR:Fn:=⟨1,1,[.ret<|.tup [jS "branch",.fld (.v 0) "test" [] ["Branch"],.fld (.v 0) "yes" [] ["Branch"],.fld (.v 0) "no" [] ["Branch"]]]⟩
noncomputable def eu:Fn:=⟨1,1,[.ret<|.lst [.tup [.fld (.v 0) "yes" [] ["Branch"],.c<|.bl false],.tup [.fld (.v 0) "no" [] ["Branch"],.c<|.bl false]]]⟩
noncomputable def et:Fn:=⟨1,1,[.ret<|.lst [.fld (.v 0) "test" [] ["Branch"]]]⟩
noncomputable abbrev p0:Nat:=32
noncomputable def gX:Fn:=⟨2,2,[.setf (.v 0) "operand" (.v 1) [] ["Back"]]⟩
def gW:Fn:=⟨1,1,[.ret<|.tup [jS "back",.fld (.v 0) "operand" [] ["Back"]]]⟩
noncomputable def fU:Fn:=⟨1,1,[.ret<|.lst [.fld (.v 0) "operand" [] ["Back"]]]⟩
noncomputable abbrev oG:Nat:=35
noncomputable def fN:Fn:=⟨2,2,[.setf (.v 0) "fault" (.v 1) [] ["Raise"]]⟩
def fM:Fn:=⟨1,1,[.ret<|.tup [jS "raise",.fld (.v 0) "fault" [] ["Raise"]]]⟩
noncomputable abbrev pW:Nat:=37
noncomputable def gP:Fn:=⟨6,6,[.setf (.v 0) "op" (.v 1) [] ["Row","Risk"],.setf (.v 0) "extra" (.v 2) [] ["Row","Risk"],.setf (.v 0) "asked" (.bt .tuple [.v 3]) [] ["Risk"],.setf (.v 0) "edge" (.v 4) [] ["Jump","Risk"],.setf (.v 0) "catches" (.bt .tuple [.v 5]) [] ["Risk"]]⟩
def gN:Fn:=⟨1,1,[.ret<|.tup [jS "risk",.fld (.v 0) "op" [] ["Row","Risk"],.fld (.v 0) "extra" [] ["Row","Risk"],.fld (.v 0) "asked" [] ["Risk"],.fld (.v 0) "edge" [] ["Jump","Risk"],.fld (.v 0) "catches" [] ["Risk"]]]⟩
noncomputable def fL:Fn:=⟨1,1,[.ret<|.bin .add (.lst [.tup [.fld (.v 0) "edge" [] ["Jump","Risk"],.c<|.bl true]])<|.compU (.fld (.v 0) "catches" [] ["Risk"])<|.tup [.v 1,.c<|.bl false]]⟩
noncomputable def fK:Fn:=⟨1,1,[.ret<|.bt .list [.fld (.v 0) "asked" [] ["Risk"]]]⟩
noncomputable abbrev oK:Nat:=41
noncomputable def fS:Fn:=⟨4,4,[.setf (.v 0) "params" (.bt .tuple [.v 1]) [] ["Block"],.setf (.v 0) "rows" (.bt .tuple [.v 2]) [] ["Block"],.setf (.v 0) "end" (.v 3) [] ["Block"]]⟩
noncomputable abbrev oJ:Nat:=42
def fR:Fn:=⟨1,1,[.ret<|.tup [.fld (.v 0) "params" [] ["Block"],.bt .tuple [.comp false (.fld (.v 0) "rows" [] ["Block"])<|.meth (.v 0) "told" mT []],.meth (.fld (.v 0) "end" [] ["Block"]) "told" mT []]]⟩
noncomputable abbrev mz:Nat:=43
noncomputable def eU:Fn:=⟨1,1,[.ret<|.bin .add (.bt .list [.fld (.v 0) "params" [] ["Block"]])<|.compIf (.fld (.v 0) "rows" [] ["Block"]) (.cmp .IsNot (.fld (.v 0) "name" [] ["Row"])<|.c<|.non)<|.fld (.v 0) "name" [] ["Row"]]⟩
noncomputable abbrev my:Nat:=44
def eT:Fn:=⟨1,1,[.ret<|.bt .any [.comp false (.fld (.v 0) "rows" [] ["Block"])<|.cmp .Eq (.fld (.v 0) "op" [] ["Row","Risk"])<|jS "tick"]]⟩
noncomputable abbrev ki:Nat:=45
noncomputable def dR:Fn:=⟨5,5,[.setf (.v 0) "takes" (.bt .tuple [.v 1]) [] ["Function"],.setf (.v 0) "gives" (.v 2) [] ["Function"],.setf (.v 0) "kinds" (.bt .dict [.v 3]) [] ["Function"],.setf (.v 0) "kept_kinds" (.bt .dict [.v 3]) [] ["Function"],.setf (.v 0) "blocks" (.bt .tuple [.v 4]) [] ["Function"]]⟩
noncomputable abbrev kg:Nat:=46
def dQ:Fn:=⟨1,2,[.set 1<|.bt .tuple [.sit<|.fld (.v 0) "kept_kinds" [] ["Function"]],.ret<|.tup [.fld (.v 0) "takes" [] ["Function"],.fld (.v 0) "gives" [] ["Function"],.v 1,.bt .tuple [.comp false (.fld (.v 0) "blocks" [] ["Function"])<|.meth (.v 0) "told" mT []]]]⟩
noncomputable abbrev jE:Nat:=47
def dz:Fn:=⟨1,1,[.ret<|.bt .sum [.comp false (.fld (.v 0) "blocks" [] ["Function"])<|.bin .add (.bt .len [.fld (.v 0) "rows" [] ["Block"]])<|jI 1]]⟩
noncomputable abbrev pZ:Nat:=48
noncomputable def gV:Fn:=⟨2,2,[.setf (.v 0) "functions" (.bt .dict [.v 1]) [] ["Code"],.setf (.v 0) "kept_functions" (.bt .dict [.v 1]) [] ["Code"]]⟩
noncomputable abbrev pY:Nat:=49
def gU:Fn:=⟨1,1,[.ret<|.bt .tuple [.comp false (.meth (.v 0) "names" [("Code",50)] [])<|.tup [.v 0,.meth (.meth (.v 1) "function_named" [("Code",52)] [.v 0]) "told" mT []]]]⟩
noncomputable abbrev oI:Nat:=50
noncomputable def fQ:Fn:=⟨1,1,[.ret<|.bt .sorted [.fld (.v 0) "kept_functions" [] ["Code"]]]⟩
noncomputable abbrev oH:Nat:=51
def fP:Fn:=⟨1,1,[.ret<|.vmd (.fld (.v 0) "kept_functions" [] ["Code"])<|.meth (.v 0) "width" mW []]⟩
noncomputable abbrev gj:Nat:=52
noncomputable def cC:Fn:=⟨2,2,[.ret<|.ix (.fld (.v 0) "kept_functions" [] ["Code"])<|.v 1]⟩
noncomputable abbrev gJ:Nat:=53
noncomputable def cJ:Fn:=⟨3,4,[.set 3<|.bt .dict [.fld (.v 0) "kept_functions" [] ["Code"]],.setix (.v 3) (.v 1)<|.v 2,.ret<|.new "Code" 48 [.v 3]]⟩
def tab:List Fn:=[fI,eh,gK,iz,eg,dq,dw,gM,iA,dP,dO,dN,gL,fJ,fH,du,cR,cB,eQ,tM,iC,iB,gT,gS,dA,gR,gQ,fO,eS,eR,eu,et,gX,gW,fU,fN,fM,gP,gN,fL,fK,fS,fR,eU,eT,dR,dQ,dz,gV,gU,fQ,fP,cC,cJ]
local macro_rules| `(tactic|walk_at "call0")=> `(tactic|(refine vC rfl rfl ?_;dsimp only[fI,eh,gK,iz,eg,dq,dw,gM,iA,dP,dO,dN,gL,fJ,fH,du,cR,cB,eQ,tM,iC,iB,gT,gS,dA,gR,gQ,fO,eS,eR,eu,et,gX,gW,fU,fN,fM,gP,gN,fL,fK,fS,fR,eU,eT,dR,dQ,dz,gV,gU,fQ,fP,cC,cJ,map_cons,map_nil,cons_append,nil_append,length_cons,length_nil,replicate,Nat.reduceAdd,Nat.reduceSub]))
local macro_rules| `(tactic|walk_at "call")=> `(tactic|(walk_at "call0";walk_at "ev"))
noncomputable def ue(n op ex x:D):List (Str×D):=[("name",n),("op",op),("extra",ex),("operands",x)]
noncomputable def pB(op ex x e c:D):List (Str×D):=[("op",op),("extra",ex),("asked",x),("edge",e),("catches",c)]
theorem tm:∀{fs:List (Str×D)}{m:Str},(fs.map (·.1)).contains m=false->fs.lookup m=none
 |[],_,_=>rfl
 |(a,w)::r,m,h=>by simp only[map_cons,contains_cons,Bool.or_eq_false_iff] at h;simp only[lookup_cons,h.1];exact tm h.2
theorem lk:∀{fs:List (Str×D)}{f:Str}{d:D}(i:Nat),fs[i]? =some (f,d)->((fs.take i).map (·.1)).contains f=false->fs.lookup f=some d
 |(a,w)::r,f,d,0,h,_=>by simp_all
 |(a,w)::r,f,d,i+1,h,k=>by
  simp only[take_succ_cons,map_cons,contains_cons,Bool.or_eq_false_iff] at k;simp only[lookup_cons,k.1];exact lk i (by simpa using h) k.2
def jV{c:Str}{fs:List (Str×D)}{ics:List Str}(h:st1[p]? =some (.ins c fs))(i:Nat)(hi:fs[i]? =some (f,d))(q:P d)(I:c∈ics:=by decide+kernel)(hk:((fs.take i).map (·.1)).contains f=false:=by(simp only[ue,pB,nil_append,cons_append,take_succ_cons,take_zero,map_cons,map_nil];decide+kernel)):∃n c fs d,D.ref p=.ref n/\st1[n]? =some (.ins c fs)/\fs.lookup f=some d/\c∈ics/\P d:=⟨p,c,fs,d,rfl,h,lk i hi hk,I,q⟩
def Ar{c m:Str}{fs:List (Str×D)}{h:List (Str×Nat)}{P:Nat->Nat->Prop}(I:st1[p]? =some (.ins c fs))(Y:h.lookup c=some j)(q:P p j)(J:(fs.map (·.1)).contains m=false:=by(simp only[ue,pB,nil_append,cons_append,map_cons,map_nil];decide+kernel)):∃n c fs j,D.ref p=.ref n/\st1[n]? =some (.ins c fs)/\fs.lookup m=none/\h.lookup c=some j/\P n j:=⟨p,c,fs,j,rfl,I,tm J,Y,q⟩
theorem sG:∀{fs:List (Str×D)}{f:Str}{v:D},(fs.map (·.1)).contains f=false->putD f v fs=fs++[(f,v)]
 |[],_,_,_=>rfl
 |(a,w)::r,f,v,h=>by
  simp only[map_cons,contains_cons,Bool.or_eq_false_iff] at h;have I:a≠f:=λz=>by simp[z] at h
  simp[putD,I,sG h.2]
def d8{Q:Fl->aV->Prop}{e:Ex}{cs ics:List Str}(h0:loc[0]? =some (some<|.ref p))
  (h:W (run g e loc st) λd st1=>∃c fs,(st1[p]? =some (.ins c fs)/\fs.length<900/\c∈ics/\(fs.map (·.1)).contains f=false)/\W (execs g ss loc<|st1.set p<|.ins c<|fs++[(f,d)]) Q):W (execs g (.setf (.v 0) f e cs ics::ss) loc st) Q:=
 AH (h.mono λd st1 ⟨c,fs,⟨hp,hl,hc,hk⟩,q⟩=>aC h0<|yg hp ⟨hl,hc⟩ (by rw[sG hk];exact q))
def ml{c:Str}{fs:List (Str×D)}{ics:List Str}{P:Str->List (Str×D)->Prop}(h:st1[p]? =some (.ins c fs))(q:P c fs)(I:fs.length<900:=by simp)(hc:c∈ics:=by decide+kernel)(hk:(fs.map (·.1)).contains f=false:=by(simp only[ue,pB,nil_append,cons_append,map_cons,map_nil];decide+kernel)):∃c fs,(st1[p]? =some (.ins c fs)/\fs.length<900/\c∈ics/\(fs.map (·.1)).contains f=false)/\P c fs:=⟨c,fs,⟨h,I,hc,hk⟩,q⟩
def sn{x:O}(h:st[i]? =some o)(I:j≠i):(st.set j x)[i]? =some o:=by rw[aS I];exact h
def eq_str{a b:Str}:dX 60 st (.str a) (.str b)=some (a==b):=by simp[dX,shape,rP]
abbrev Fp(st:aV)(d:D):D->aV->Prop:=λx st1=>x=d/\Gr st st1
noncomputable abbrev kN:D:= .tup [.str "num"]
noncomputable abbrev kT:D:= .tup [.str "truth"]
noncomputable abbrev kR:D:= .tup [.str "row",.int 2]
def Kd(d:D):Prop:=d=kN\/d=kT\/d=kR
def Sm(m:Nat)(d:D):Prop:=sT d=true/\EC d<=m
def Sm.mono(h:Sm m d)(k:m<=n):Sm n d:=⟨h.1,ao h.2 k⟩
theorem Sm.tup(h:∀x∈xs,Sm m x):Sm (m+1) (.tup xs):=⟨lC λx I=>(h x I).1,by exact succ_le_succ<|kG λx I=>(h x I).2⟩
def Sm.eq(h:Sm m d)(k:m<60:=by decide):dX 60 st d d=some true:=tN 60 d h.1<|lt_of_le_of_lt h.2 k
def cv{s:Str}:Sm m (.str s):=⟨rfl,zero_le _⟩
def eO{s:Int}:Sm m (.int s):=⟨rfl,zero_le _⟩
def vW{s:Bool}:Sm m (.bl s):=⟨rfl,zero_le _⟩
def vV:Sm m .non:=⟨rfl,zero_le _⟩
def all2{a b:D}(h1:P a)(h:P b):∀x∈[a,b],P x:=by
 simp_all
def bh{a:D}{l:List D}(h1:P a)(h:∀x∈l,P x):∀x∈a::l,P x:=by
 simp_all
def bP:∀x∈([]:List D),P x:=λ_ h=>nomatch h
def kK(d:D):Prop:=Sm 1 d
def qu(xs:List D):Prop:=(∀o∈xs,kK o)/\xs.length<=20
inductive Edg:D->Prop where
 |mk (i:Int) (xs:List D)(h:qu xs):Edg (.tup [.int i,.tup xs])
inductive Nam:D->Prop where
 |non:Nam .non
 |int (i:Int):Nam (.int i)
inductive RowD:D->Prop where
 |mk (n:D)(op:Str)(ex:D)(xs:List D)(hn:Nam n)(he:kK ex)(h:qu xs):RowD (.tup [n,.str op,ex,.tup xs])
inductive Cat:D->Prop where
 |mk (s:Str)(e:D)(h:Edg e):Cat (.tup [.str s,e])
inductive EndD:D->Prop where
 |jump (e:D)(h:Edg e):EndD (.tup [.str "jump",e])
 |branch (t y n:D)(ht:kK t)(hy:Edg y)(hn:Edg n):EndD (.tup [.str "branch",t,y,n])
 |back (o:D)(h:kK o):EndD (.tup [.str "back",o])
 |rais (s:Str):EndD (.tup [.str "raise",.str s])
 |risk (op:Str)(ex:D)(xs:List D)(e:D)(cs:List D)(he:kK ex)(hx:qu xs)(hd:Edg e)(hc:(∀c∈cs,Cat c)/\cs.length<=20):EndD (.tup [.str "risk",.str op,ex,.tup xs,e,.tup cs])
def qu.sm(h:qu xs):Sm 2 (.tup xs):= .tup λx I=>(h.1 x I)
theorem Edg.sm(h:Edg d):Sm 3 d:=by
 cases h with
 |mk i xs h=>exact .tup<|all2 eO h.sm
def Nam.sm(h:Nam d):Sm m d:=by
 cases h with
 |non=>exact vV
 |int i=>exact eO
theorem RowD.sm(h:RowD d):Sm 3 d:=by
 cases h with
 |mk n op ex xs hn he h=>exact .tup<|bh hn.sm<|bh cv<|bh (Sm.mono he (by decide))<|bh h.sm bP
theorem Cat.sm(h:Cat d):Sm 4 d:=by
 cases h with
 |mk s e h=>exact .tup<|all2 cv h.sm
theorem EndD.sm(h:EndD d):Sm 6 d:=by
 cases h with
 |jump e h=>exact .tup<|all2 cv<|h.sm.mono (by decide)
 |branch t y n ht hy hn=>exact .tup<|bh cv<|bh (Sm.mono ht (by decide))<|bh (hy.sm.mono (by decide))<|bh (hn.sm.mono (by decide)) bP
 |back o h=>exact .tup<|all2 cv<|Sm.mono h (by decide)
 |rais s=>exact .tup<|all2 cv cv
 |risk op ex xs e cs he hx hd hc=>exact .tup<|bh cv<|bh cv<|bh (Sm.mono he (by decide))<|bh (hx.sm.mono (by decide))<|bh (hd.sm.mono (by decide))<|bh (.tup λc h=>(hc.1 c h).sm) bP
inductive RowAt(st:aV)(r:Nat):D->Prop where
 |mk {n op ex:D}{xs:List D}(h:st[r]? =some (.ins "Row"<|ue n op ex<|.tup xs)):RowAt st r (.tup [n,op,ex,.tup xs])
inductive EndAt(st:aV)(r:Nat):D->Prop where
 |jump {e:D}(h:st[r]? =some (.ins "Jump" [("edge",e)])):EndAt st r (.tup [.str "jump",e])
 |branch {t y n:D}(h:st[r]? =some (.ins "Branch" [("test",t),("yes",y),("no",n)])):EndAt st r (.tup [.str "branch",t,y,n])
 |back {o:D}(h:st[r]? =some (.ins "Back" [("operand",o)])):EndAt st r (.tup [.str "back",o])
 |rais {s:D}(h:st[r]? =some (.ins "Raise" [("fault",s)])):EndAt st r (.tup [.str "raise",s])
 |risk {op ex e:D}{xs cs:List D}(h:st[r]? =some (.ins "Risk"<|pB op ex (.tup xs) e<|.tup cs)):EndAt st r (.tup [.str "risk",op,ex,.tup xs,e,.tup cs])
def Kp(st st':aV):Prop:=∀(n:Nat) c fs,st[n]? =some (.ins c fs)->st'[n]? =some (.ins c fs)
def iI(h:Gr st st'):Kp st st':=λ_ _ _ e=>h.at e
def Kp.trans{c:aV}(h:Kp a b)(k:Kp b c):Kp a c:=λn c fs e=>k n c fs<|h n c fs e
def RowAt.kp(k:Kp st st')(h:RowAt st r d):RowAt st' r d:=by
 cases h with
 |mk h=>exact .mk<|k _ _ _ h
def EndAt.kp(k:Kp st st')(h:EndAt st r d):EndAt st' r d:=by
 cases h with
 |jump h=>exact .jump<|k _ _ _ h
 |branch h=>exact .branch<|k _ _ _ h
 |back h=>exact .back<|k _ _ _ h
 |rais h=>exact .rais<|k _ _ _ h
 |risk h=>exact .risk<|k _ _ _ h
section
variable{k r:Nat}{st:aV}{Q:D->aV->Prop}
def Eb{a o:D}(h:Q .non (st++[.ins "Row"<|ue a o e<|.tup xs])):Wv (calls tab (k+1) rJ [.ref st.length,a,o,e,.tup xs]<|st++[.ins "Row" []]) Q:=by
 obtain⟨J,I⟩:∃J,J=st++[O.ins "Row" []]:=⟨_,rfl⟩;rw[<-I]
 walk_at "call0"
 rw[I];refine d8 rfl<|aC rfl<|ml am ?_;rw[bN];refine d8 rfl<|aC rfl<|ml am ?_;rw[bN];refine d8 rfl<|aC rfl<|ml am ?_;rw[bN];refine d8 rfl<|bH<|ab<|aC rfl<|ag<|o7<|ml am ?_;rw[bN];exact aR<|jT h
def xj{x:Str}{ics:List Str}(J:tab[i]? =some ⟨2,2,[.setf (.v 0) f (.v 1) [] ics]⟩)(I:x∈ics)(h:Q .non (st++[.ins x [(f,e)]])):Wv (calls tab (k+1) i [.ref st.length,e]<|st++[.ins x []]) Q:=by
 refine vC J rfl<|d8 rfl<|aC rfl ⟨_,_,⟨am,by simp,I,rfl⟩,?_⟩
 rw[bN];exact aR<|jT h
def Cf(h:Q .non (st++[.ins "Jump" [("edge",e)]])):Wv (calls tab (k+1) pX [.ref st.length,e]<|st++[.ins "Jump" []]) Q:=xj rfl (.head _) h
def Cg(h:Q .non (st++[.ins "Back" [("operand",e)]])):Wv (calls tab (k+1) p0 [.ref st.length,e]<|st++[.ins "Back" []]) Q:=xj rfl (.head _) h
def zG(h:Q .non (st++[.ins "Raise" [("fault",e)]])):Wv (calls tab (k+1) oG [.ref st.length,e]<|st++[.ins "Raise" []]) Q:=xj rfl (.head _) h
def xl{m:D}(h:Q .non (st++[.ins "Branch" [("test",t),("yes",y),("no",m)]])):Wv (calls tab (k+1) mw [.ref st.length,t,y,m]<|st++[.ins "Branch" []]) Q:=by
 obtain⟨J,I⟩:∃J,J=st++[O.ins "Branch" []]:=⟨_,rfl⟩;rw[<-I]
 walk_at "call0"
 rw[I];refine d8 rfl<|aC rfl<|ml am ?_;rw[bN];refine d8 rfl<|aC rfl<|ml am ?_;rw[bN];refine d8 rfl<|aC rfl<|ml am ?_;rw[bN];exact aR<|jT h
def jh(I:bz st x=some xs)(h:Q (.tup xs) st):W (cK .tuple [x] st) Q:=by simp only[cK,mm,I];exact h
def jo{st:aV}(g:Gr st st')(h:bz st x=some xs):bz st' x=some xs:=by
 cases x with
 |ref n=>
  simp only[bz] at h ⊢;cases q:st[n]? with
  |none=>simp_all
  |some o=>rw[q] at h;rw[g.at q];exact h
 |_=>exact h
def Ce{op ex:D}{cs:List D}(Z:bz st x=some xs)(Y:bz st y=some cs)(h:Q .non (st++[.ins "Risk"<|pB op ex (.tup xs) e<|.tup cs])):Wv (calls tab (k+1) pW [.ref st.length,op,ex,x,e,y]<|st++[.ins "Risk" []]) Q:=by
 obtain⟨J,I⟩:∃J,J=st++[O.ins "Risk" []]:=⟨_,rfl⟩;rw[<-I]
 walk_at "call0"
 rw[I];refine d8 rfl<|aC rfl<|ml am ?_;rw[bN];refine d8 rfl<|aC rfl<|ml am ?_;rw[bN];refine d8 rfl<|bH<|ab<|aC rfl<|ag<|jh (jo (.one _ _) Z)<|ml am ?_;rw[bN];refine d8 rfl<|aC rfl<|ml am ?_;rw[bN];refine d8 rfl<|bH<|ab<|aC rfl<|ag<|jh (jo (.one _ _) Y)<|ml am ?_;rw[bN];exact aR<|jT h
def qR(I:RowAt st r d)(h:Q d st):Wv (calls tab (k+1) rH [.ref r] st) Q:=by
 cases I with
 |mk e=>
  walk_at "call0"
  refine bo<|aQ<|ab<|aW<|aC rfl<|jV e 0 rfl ?_;refine ab<|aW<|aC rfl<|jV e 1 rfl ?_;refine ab<|aW<|aC rfl<|jV e 2 rfl ?_;refine ab<|aW<|aC rfl<|jV e 3 rfl ?_;trivial
end
def fw(h:st[n]? =some (.lst xs)):bz st (.ref n)=some xs:=by simp only[bz,h]
section
variable{k r:Nat}{st:aV}{Q:D->aV->Prop}{loc:Loc}{a:Ex}
def sZ(h:W (run (calls tab<|k+1) a loc st) λx st1=>∃r e,x=.ref r/\RowAt st1 r e/\Q e st1):W (run (calls tab<|k+1) (.meth a "told" mT []) loc st) Q:=by
 refine bV<|h.mono λx st1 Y=>?_;obtain⟨r,e,rfl,J,q⟩:=Y;have I:=J;cases J with
 |mk hh=>exact Ar hh rfl<|ag<|qR I q
def wT(h:W (run (calls tab<|k+1) a loc st) λx st1=>∃r e,x=.ref r/\EndAt st1 r e/\Q e st1):W (run (calls tab<|k+1) (.meth a "told" mT []) loc st) Q:=by
 refine bV<|h.mono λx st1 Y=>?_;obtain⟨r,e,rfl,J,q⟩:=Y
 cases J<;>rename_i I<;>refine Ar I rfl (ag ?_)<;>walk_at "call0" <;>refine bo (aQ<|ab<|aN<|ab<|aW<|aC rfl<|jV I 0 rfl ?_)<;>first
  |exact ag<|bi q
  |exact ab<|aW<|aC rfl<|jV I 1 rfl<|ab<|aW<|aC rfl<|jV I 2 rfl<|ag<|bi q
  |exact ab<|aW<|aC rfl<|jV I 1 rfl<|ab<|aW<|aC rfl<|jV I 2 rfl<|ab<|aW<|aC rfl<|jV I 3 rfl<|ab<|aW<|aC rfl<|jV I 4 rfl<|ag<|bi q
end
noncomputable def mF(p r e:D):List (Str×D):=[("params",p),("rows",r),("end",e)]
def CK(ps:List D):Prop:=(∀p∈ps,∃i,p=.int i)/\ps.length<=1000
structure BlkD(ps rows:List D)(x:D):Prop where
 p:CK ps
 r:∀r∈rows,RowD r
 rl:rows.length<=1000
 e:EndD x
structure BlkAt(st:aV)(r:Nat)(ps rows:List D)(x:D)(rs:List Nat)(e:Nat):Prop where
 ins:st[r]? =some (.ins "Block"<|mF (.tup ps) (.tup<|rs.map .ref)<|.ref e)
 len:rs.length=rows.length
 row:∀(i p:Nat)(d:D),rs[i]? =some p->rows[i]? =some d->RowAt st p d
 fin:EndAt st e x
theorem BlkAt.kp{e:Nat}{ps:List D}(k:Kp st st')(h:BlkAt st r ps rows x rs e):BlkAt st' r ps rows x rs e:=
 ⟨k _ _ _ h.ins,h.len,λi p d a b=>(h.row i p d a b).kp k,h.fin.kp k⟩
noncomputable def nJ:List D->List D->List D
 |x::xs,y::ys=>.tup [x,y]::nJ xs ys
 |_,_=>[]
theorem kM:∀(xs ys:List D)(i:Nat),(nJ xs ys)[i]? =(match xs[i]?,ys[i]? with
   |some x,some y=>some (.tup [x,y])
   |_,_=>none)
 |[],_,i=>rfl
 |_::_,[],i=>by simp only[nJ,List.getElem?_nil];simp
 |x::xs,y::ys,0=>rfl
 |x::xs,y::ys,i+1=>by simpa[nJ] using kM xs ys i
theorem kL:∀(xs ys:List D),(nJ xs ys).length<=xs.length
 |[],_=>af _
 |_::_,[]=>zero_le _
 |_::xs,_::ys=>succ_le_succ<|kL xs ys
def oZ(h:(nJ xs ys)[i]? =some z):∃x y,xs[i]? =some x/\ys[i]? =some y/\z=.tup [x,y]:=by
 rw[kM] at h;split at h
 .simp_all
 .cases h
def wH:iT (.zp (.tup xs)<|.tup ys) i st=some (nJ xs ys)[i]?:=by rw[kM];rfl
def ie{c:Ex}{a:List S}{Q:Fl->aV->Prop}(h:W (run g c loc st) λz st1=>z=.bl false/\W (execs g ss loc st1) Q):W (execs g (.ite c a []::ss) loc st) Q:=
 eE (h.mono λz st1 I=>by obtain⟨rfl,q⟩:=I;exact⟨_,rfl,nofun,λ_=>aR<|bv q⟩)
def gn(h:Sm m d)(I:m<60)(q:Q (.bl false) st):W (bS .NotEq d d st) Q:=j6 (h.eq I) q
def dD{a b:Ex}(h:W (run g a loc st) λx st1=>x=.bl false/\W (run g b loc st1) Q):W (run g (.or a b) loc st) Q:=
 w_or (h.mono λx st1 I=>by
  simp_all)
def vb{a b c:D}(h:st1[p]? =some (.ins "Block"<|mF a b c))(i:Nat)(hi:(mF a b c)[i]? =some (f,d))(q:P d)(I:(((mF a b c).take i).map (·.1)).contains f=false:=by(simp only[mF,take_succ_cons,take_zero,map_cons,map_nil];decide+kernel)):∃n c fs d,D.ref p=.ref n/\st1[n]? =some (.ins c fs)/\fs.lookup f=some d/\c∈(["Block"]:List Str)/\P d:=⟨p,_,_,d,rfl,h,lk i hi I,.head _,q⟩
def km:tX (d::xs) 0=some d:=by
 obtain⟨e,h1,h⟩:=rV (xs:=d::xs) (i:=0) (by lia) (by simp)
 rw[h1];exact h.symm
section
variable{k:Nat}{st:aV}{s t:Str}{a ss:List S}{loc:Loc}{Q:Fl->aV->Prop}{xs:List D}
def iZ(J:loc[0]? =some (some<|.tup<|.str s::xs))(I:(s==t)=false)(h:W (execs (calls tab k) ss loc st) Q):W (execs (calls tab k) (.ite (.cmp .Eq (.ix (.v 0)<|.c<|.int 0)<|.c<|.str t) a []::ss) loc st) Q:=
 eE (bn<|bu<|aC J<|aN<|bJ km<|aN<|w_eq (k:=false) (by rw[eq_str,I]) ⟨_,rfl,nofun,λ_=>aR<|bv h⟩)
def lG(I:loc[0]? =some (some<|.tup<|.str s::xs))(h:W (execs (calls tab k) a loc st) (Kn (calls tab k) ss Q)):W (execs (calls tab k) (.ite (.cmp .Eq (.ix (.v 0)<|.c<|.int 0)<|.c<|.str s) a []::ss) loc st) Q:=
 eE (bn<|bu<|aC I<|aN<|bJ km<|aN<|w_eq (k:=true) (by rw[eq_str];simp) ⟨_,rfl,λ_=>h,nofun⟩)
end
noncomputable def uC:Key->Int
 | .inl i=>i
 | .inr _=>0
noncomputable def ky(kvs:List (Key×D)):List Int:=kvs.map λp=>uC p.1
def xX(kvs:List (Key×D)):Prop:=∀p∈kvs,∃i,p.1=Sum.inl i
structure Ri(kvs:List (Key×D)):Prop where
 i:xX kvs
 r:(ky kvs).Pairwise (· < ·)
noncomputable def kp(kvs:List (Key×D)):List D:=kvs.map λp=>.tup [.int<|uC p.1,p.2]
theorem oB:∀{kvs:List (Key×D)},xX kvs->m_ kvs=some (ky kvs)
 |[],_=>rfl
 |(k,d)::r,h=>by obtain⟨i,e⟩:=h _<|.head _;subst e;show((m_ r).map λns=>i::ns)=_;rw[oB λp I=>h p<|.tail _ I];rfl
theorem qv:∀{kvs:List (Key×D)},((ky kvs).zip kvs).map (λp=>D.tup [.int p.1,p.2.2])=kp kvs
 |[]=>rfl
 |p::r=>by show _::((ky r).zip r).map _=_::kp r;rw[qv]
theorem oa:∀{kvs:List (Key×D)},xX kvs->qV (kp kvs)=some kvs
 |[],_=>rfl
 |(k,d)::r,h=>by obtain⟨i,e⟩:=h _<|.head _;subst e;show qV (.tup [.int i,d]::kp r)=_;unfold qV;rw[oa λp I=>h p<|.tail _ I];rfl
def sF{k:Key}(h:∀p∈kvs,p.1≠k):bw kvs k d=kvs++[(k,d)]:=by unfold bw;rw[if_neg];intro q;obtain⟨p,I,e⟩:=any_eq_true.mp q;exact h p I<|of_decide_eq_true e
theorem tL:∀(r pre:List (Key×D)),(ky<|pre++r).Pairwise (· < ·)->r.foldl (λacc p=>bw acc p.1 p.2) pre=pre++r
 |[],pre,_=>by rw[append_nil];rfl
 |p::r,pre,h=>by
  rw[foldl_cons,sF λq I e=>?_]
  .have:=tL r (pre++[p]) (by simp_all)
   simp_all
  .unfold ky at h;rw[map_append,List.pairwise_append] at h;have:=h.2.2 (uC q.1) (List.mem_map_of_mem I) (uC p.1) (.head _)
   simp_all
def Ri.fill(h:Ri kvs):xu kvs=kvs:=tL kvs [] h.r
section
variable{st:aV}{Q:D->aV->Prop}{f:D->M (Option D)}
def kU(hl:xs.length<=1000000)(Y:ys.length=xs.length)(h:∀(i:Nat) x y,xs[i]? =some x->ys[i]? =some y->∀st1,Gr st st1->W (f x st1) λo I=>o=some y/\Gr st1 I)(k:∀I,Gr st I->Q (.ref I.length) (I++[.lst ys])):W (bY f (.its xs) st) Q:=by
 refine eI (L:=xs) hl (af _) (λi acc st1=>Gr st st1/\acc=ys.take i) ⟨.refl _,rfl⟩ (λi acc st1 _=>rfl) (λi x acc st1 e J=>?_)<|λacc st1 J=>?_
 .obtain⟨g,rfl⟩:=J;have hi:i<ys.length:=by rw[Y];exact(au e).1
  have Z:ys[i]? =some ys[i]:=aA hi;refine(h i x _ e Z st1 g).mono λo I q=>?_;obtain⟨rfl,g2⟩:=q;refine⟨g.trans g2,?_⟩;rw[take_add_one,Z];rfl
 .obtain⟨g,rfl⟩:=J;rw[<-Y,take_length];exact k st1 g
end
noncomputable def Cj(t g a b l:D):List (Str×D):=[("takes",t),("gives",g),("kinds",a),("kept_kinds",b),("blocks",l)]
section
variable{k b e:Nat}{st:aV}{Q:D->aV->Prop}
def zH{p q:D}{ps rs:List D}(Z:bz st p=some ps)(Y:bz st q=some rs)(h:Q .non (st++[.ins "Block"<|mF (.tup ps) (.tup rs) x])):Wv (calls tab (k+1) oK [.ref st.length,p,q,x]<|st++[.ins "Block" []]) Q:=by
 obtain⟨J,I⟩:∃J,J=st++[O.ins "Block" []]:=⟨_,rfl⟩;rw[<-I]
 walk_at "call0"
 rw[I];refine d8 rfl<|bH<|ab<|aC rfl<|ag<|jh (jo (.one _ _) Z)<|ml am ?_;rw[bN];refine d8 rfl<|bH<|ab<|aC rfl<|ag<|jh (jo (.one _ _) Y)<|ml am ?_;rw[bN];refine d8 rfl<|aC rfl<|ml am ?_;rw[bN];exact aR<|jT h
def xk{g l:D}{ts bs:List D}{d:Nat}(Y:bz st t=some ts)(hd:st[d]? =some (.dct kvs))(Z:bz st l=some bs)(h:∀a b st1,st1[st.length]? =some (.ins "Function"<|Cj (.tup ts) g (.ref a) (.ref b)<|.tup bs)->st1[a]? =some (.dct kvs)->st1[b]? =some (.dct kvs)->(st.length<a/\st.length<b)->Gr st st1->Q .non st1):Wv (calls tab (k+1) ki [.ref st.length,t,g,.ref d,l]<|st++[.ins "Function" []]) Q:=by
 obtain⟨J,I⟩:∃J,J=st++[O.ins "Function" []]:=⟨_,rfl⟩;rw[<-I]
 walk_at "call0"
 rw[I];have e1:∀a:O,(st++[a]).length=st.length+1:=λa=>by simp
 have e2:∀a b:O,(st++[a,b]).length=st.length+2:=λa b=>by simp
 refine d8 rfl<|bH<|ab<|aC rfl<|ag<|jh (jo (.one _ _) Y)<|ml am ?_;rw[bN];refine d8 rfl<|aC rfl<|ml am ?_;rw[bN];refine d8 rfl<|bH<|ab<|aC rfl<|ag<|fu (aF hd)<|ml (aF am) ?_;rw[e1,append_assoc,show ∀a b:O,[a]++[b]=[a,b] from λ_ _=>rfl,gu];refine d8 rfl<|bH<|ab<|aC rfl<|ag<|fu (aF hd)<|ml (aF vH) ?_;rw[e2,bO _ _ (by simp),gu]
 refine d8 rfl<|bH<|ab<|aC rfl<|ag<|jh (jo ⟨_,by rw[append_assoc]⟩ Z)<|ml (aF vH) ?_
 rw[bO _ _ (by simp),gu]
 refine aR<|jT<|h (st.length+1) (st.length+2) _ (aF vH) (aF t4) ?_ (by lia) ⟨_,by rw[append_assoc]⟩
 rw[append_assoc,aM<|Nat.le_add_right _ _,Nat.add_sub_cancel_left];rfl
def qP(hd:EndD x)(h:∀m st1,EndAt st1 m x->Gr st st1->Q (.ref m) st1):Wv (calls tab (k+2) j_ [x] st) Q:=by
 walk_at "call0"
 cases hd with
 |jump e he=>exact lG rfl<|bo<|eX<|ab<|bu<|aC rfl<|aN<|bJ rfl<|ag<|Cf ⟨rfl,cI<|bi<|h _ _ (.jump am)<|.one _ _⟩
 |branch t y m ht hy hm=>refine iZ rfl rfl<|lG rfl<|bo<|eX<|ab<|bu<|aC rfl<|aN<|bJ rfl ?_;refine ab<|bu<|aC rfl<|aN<|bJ rfl ?_;refine ab<|bu<|aC rfl<|aN<|bJ rfl ?_;exact ag<|xl ⟨rfl,cI<|bi<|h _ _ (.branch am)<|.one _ _⟩
 |back o ho=>exact iZ rfl rfl<|iZ rfl rfl<|lG rfl<|bo<|eX<|ab<|bu<|aC rfl<|aN<|bJ rfl<|ag<|Cg ⟨rfl,cI<|bi<|h _ _ (.back am)<|.one _ _⟩
 |rais s=>exact iZ rfl rfl<|iZ rfl rfl<|iZ rfl rfl<|lG rfl<|bo<|eX<|ab<|bu<|aC rfl<|aN<|bJ rfl<|ag<|zG ⟨rfl,cI<|bi<|h _ _ (.rais am)<|.one _ _⟩
 |risk op ex xs e cs he hx hd hc=>refine iZ rfl rfl<|iZ rfl rfl<|iZ rfl rfl<|iZ rfl rfl<|bo<|eX<|ab<|bu<|aC rfl<|aN<|bJ rfl ?_;refine ab<|bu<|aC rfl<|aN<|bJ rfl ?_;refine ab<|bH<|ab<|bu<|aC rfl<|aN<|bJ rfl<|ag<|cX ?_;refine ab<|bu<|aC rfl<|aN<|bJ rfl ?_;refine ab<|bH<|ab<|bu<|aC rfl<|aN<|bJ rfl<|ag<|cX<|ag ?_;refine Ce (xs:=xs) (cs:=cs) (fw<|aF am) (fw am) ⟨rfl,bi<|h _ _ (.risk am)<|((Gr.one _ _).more _).more _⟩
end
def nI(bs:List D):Prop:=(∀b∈bs,∃ps rows x,b=.tup [.tup ps,.tup rows,x]/\BlkD ps rows x)/\bs.length<=1000
def mj(st:aV)(rs:List Nat)(bs:List D):Prop:=rs.length=bs.length/\∀(i r:Nat)(d:D),rs[i]? =some r->bs[i]? =some d->∃ps rows x qs e,d=.tup [.tup ps,.tup rows,x]/\BlkD ps rows x/\BlkAt st r ps rows x qs e
theorem mj.kp{bs:List D}(k:Kp st st')(h:mj st rs bs):mj st' rs bs:=⟨h.1,λi r d a b=>by obtain⟨ps,rows,x,qs,e,h1,J,I⟩:=h.2 i r d a b;exact⟨ps,rows,x,qs,e,h1,J,I.kp k⟩⟩
def BZ(h:st[n]? =some (.lst xs)):Kp st (st.set n o):=λm c fs e=>by
 by_cases hm:n=m
 .simp_all
 simp_all
def zr{xs:List (Key×D)}(h:st[n]? =some (.dct xs)):Kp st (st.set n o):=λm c fs e=>by
 by_cases hm:n=m
 .simp_all
 simp_all
section
variable{k b r e:Nat}{st:aV}{Q:D->aV->Prop}
def A9{f:D->M (Option D)}(hr:∀d∈rows,RowD d)(hl:rows.length<=1000)(hf:∀a op ex xs st1,Gr st st1->W (f (.tup [a,op,ex,.tup xs]) st1) λo Y=>o=some (.ref st1.length)/\Y=st1++[.ins "Row"<|ue a op ex<|.tup xs])
  (h:∀(rs:List Nat) st1,Gr st st1->rs.length=rows.length->(∀(i p:Nat)(d:D),rs[i]? =some p->rows[i]? =some d->RowAt st1 p d)->Q (.ref st1.length) (st1++[.lst<|rs.map .ref])):W (bY f (.its rows) st) Q:=by
 refine eI (L:=rows) (ao hl (by decide)) (af _) (λi acc st1=>Gr st st1/\∃rs:List Nat,acc=rs.map .ref/\rs.length=i/\∀(j p:Nat)(d:D),rs[j]? =some p->rows[j]? =some d->RowAt st1 p d) ⟨.refl _,[],rfl,rfl,λj p d a _=>by simp at a⟩ (λi acc st1 _=>rfl) (λi x acc st1 e Z=>?_)<|λacc st1 Z=>?_
 .obtain⟨g,rs,rfl,hi,I⟩:=Z;have hx:=hr x<|ah e;cases hx with
  |mk a op ex xs h1 h2 h3=>
   refine(hf a (.str op) ex xs st1 g).mono λo Y q=>?_;obtain⟨rfl,rfl⟩:=q;refine⟨g.more _,rs++[st1.length],by simp,by simp[hi],λj p d J h5=>?_⟩
   by_cases hj:j<rs.length
   .rw[aI hj] at J;exact(I j p d J h5).kp<|iI<|.one _ _
   .rw[aM (by lia)] at J
    have hj2:j=rs.length:=by
     have:=(au J).1;simp at this
     lia
    subst hj2;rw[sub_self] at J;cases J;rw[hi,e] at h5;cases h5;exact .mk am
 .obtain⟨g,rs,rfl,hi,I⟩:=Z;exact h rs st1 g hi I
structure FnAt(st:aV)(m:Nat)(tk:List D)(g:D)(kvs:List (Key×D))(rs:List Nat)(bs:List D):Prop where
 ins:∃a b,st[m]? =some (.ins "Function"<|Cj (.tup tk) g (.ref a) (.ref b)<|.tup<|rs.map .ref)/\st[a]? =some (.dct kvs)/\st[b]? =some (.dct kvs)
 bl:mj st rs bs
def jq{bs:List D}{g:D}(hr:Ri kvs)(hb:nI bs)(h:∀m rs st1,FnAt st1 m tk g kvs rs bs->Gr st st1->Q (.ref m) st1):Wv (calls tab (k+3) pU [.tup [.tup tk,g,.tup<|kp kvs,.tup bs]] st) Q:=by
 walk_at "call0"
 refine kP<|aC rfl ⟨_,rfl,rfl,?_⟩;refine a_<|br<|ag<|iL<|aC rfl ⟨_,rfl,?_⟩;refine di (L:=bs) (af _) (λi loc st'=>∃rs:List Nat,∃t,st'=st++(.lst (rs.map .ref)::t)/\rs.length=i/\(∀(j r:Nat)(d:D),rs[j]? =some r->bs[j]? =some d->∃ps rows x qs e,d=.tup [.tup ps,.tup rows,x]/\BlkD ps rows x/\BlkAt st' r ps rows x qs e)/\∃a6 a7 a8 a9,loc=[some<|.tup [.tup tk,g,.tup<|kp kvs,.tup bs],some<|.tup tk,some g,some<|.tup<|kp kvs,some<|.tup bs,some<|.ref st.length,a6,a7,a8,a9]) ⟨[],[],rfl,rfl,λj r d a _=>by simp at a,_,_,_,_,rfl⟩ (λ_ _ _ _=>rfl) (λi z loc st' hz hp=>?_) λloc st' hp=>?_
 .obtain⟨rs,t,rfl,hi,hrs,a6,a7,a8,a9,rfl⟩:=hp;obtain⟨ps,rows,x,rfl,hd⟩:=hb.1 z (ah hz);refine hW rfl<|a_<|dH<|aC rfl ⟨_,rfl,?_⟩;refine A9 hd.r hd.rl (λa op ex xs st1 g1=>?_) λqs st1 g1 hq hrow=>?_
  .refine cY<|eX<|ab<|bu<|aC rfl<|aN<|bJ rfl ?_;refine ab<|bu<|aC rfl<|aN<|bJ rfl ?_;refine ab<|bu<|aC rfl<|aN<|bJ rfl ?_;refine ab<|bu<|aC rfl<|aN<|bJ rfl<|ag ?_;exact Eb ⟨rfl,rfl,rfl⟩
  .have g2:=g1.more (.lst<|qs.map .ref);have hL:∀{s:aV},Gr (st++(.lst (rs.map .ref)::t)) s->s[st.length]? =some (.lst<|rs.map .ref):=λgg=>gg.at (by simp)
   refine ij<|aC rfl<|cW (hL g2) ?_;refine eX<|ab<|bH<|ab<|aC rfl<|ag<|cX<|ab<|aC rfl<|ab<|ck<|ab<|aC rfl<|ag ?_;refine qP hd.e λm I hm g3=>ag ?_;have g4:=(g2.more<|.lst ps).trans g3;refine zH (ps:=ps) (rs:=qs.map .ref) (fw<|g3.at am) (fw<|g3.at<|aF am) ⟨rfl,?_⟩;have g5:=g4.more<|.ins "Block"<|mF (.tup ps) (.tup<|qs.map .ref)<|.ref m;refine cM (hL g5) ?_ ?_
   .have:=(au hz).1;have:=hb.2;simp only[length_map]
    lia
   have g5':=g5;obtain⟨u,hu⟩:=g5';have J:Kp (I++[O.ins "Block"<|mF (.tup ps) (.tup<|qs.map D.ref)<|.ref m]) ((I++[O.ins "Block"<|mF (.tup ps) (.tup<|qs.map D.ref)<|.ref m]).set st.length<|O.lst<|rs.map D.ref++[D.ref I.length]):=BZ<|hL g5;refine aR<|dE ⟨rs++[I.length],t++u,?_,by simp[hi],λj r d Y h5=>?_,_,_,_,_,rfl⟩
   .rw[hu,append_assoc,List.set_append_right _ _<|af _];simp
   .by_cases hj:j<rs.length
    .rw[aI hj] at Y;obtain⟨ps',rows',x',Z,e',q1,q2,q3⟩:=hrs j r d Y h5;exact⟨ps',rows',x',Z,e',q1,q2,q3.kp<|(iI g5).trans J⟩
    .rw[aM (by lia)] at Y
     have hj2:j=rs.length:=by
      have:=(au Y).1;simp at this
      lia
     subst hj2;rw[sub_self] at Y;cases Y;rw[hi,hz] at h5;cases h5;have ga:Gr st1 (I++[O.ins "Block"<|mF (.tup ps) (.tup<|qs.map D.ref)<|.ref m]):=(((Gr.one _ _).more _).trans g3).more _;exact⟨ps,rows,x,qs,m,rfl,hd,⟨J _ _ _ am,hq,λi' p' d' h7 h8=>(hrow i' p' d' h7 h8).kp<|(iI ga).trans J,hm.kp<|(iI<|.one _ _).trans J⟩⟩
 .obtain⟨rs,t,rfl,hi,hrs,a6,a7,a8,a9,rfl⟩:=hp;have hL:∀{s:aV},Gr (st++(.lst (rs.map .ref)::t)) s->s[st.length]? =some (.lst<|rs.map .ref):=λgg=>gg.at (by simp)
  refine bv<|bo<|eX<|ab<|bH<|ab<|aC rfl<|ag<|cX<|ab<|aC rfl ?_;refine ab<|bH<|ab<|aC rfl<|ag<|nN (oa hr.i)<|ab<|aC rfl<|ag ?_;rw[hr.fill];refine xk (ts:=tk) (bs:=rs.map .ref) (kvs:=kvs) (fw<|aF am) am (fw<|hL<|(Gr.one _ _).more _) λa b st1 h1 h2 h2' _ g1=>⟨rfl,bi<|h _ rs _ ⟨⟨a,b,h1,h2,h2'⟩,hi,λj r d h3 Y=>?_⟩ ?_⟩
  .obtain⟨ps',rows',x',Z,e',q1,q2,q3⟩:=hrs j r d h3 Y;exact⟨ps',rows',x',Z,e',q1,q2,q3.kp<|iI<|((Gr.one _ _).more _).trans g1⟩
  .exact Gr.trans ⟨_,rfl⟩<|((Gr.one _ _).more _).trans g1
end
section
variable{k n b c r e:Nat}{st:aV}
def li{ps:List D}(J:rows.length<=1000)(h:BlkAt st r ps rows x rs e):Wv (calls tab (k+2) oJ [.ref r] st) (Fp st<|.tup [.tup ps,.tup rows,x]):=by
 walk_at "call0"
 refine bo<|aQ<|ab<|aW<|aC rfl<|vb h.ins 0 rfl ?_;refine ab<|bH<|ab<|dH<|aW<|aC rfl<|vb h.ins 1 rfl ⟨_,rfl,?_⟩;refine kU (ys:=rows) (by rw[length_map,h.len];exact ao J (by decide)) (by rw[length_map,h.len]) (λi a d h1 Y st1 I=>?_) λst1 I=>?_
 .rw[az] at h1;cases h3:rs[i]? with
  |none=>rw[h3] at h1;cases h1
  |some m=>rw[h3] at h1;cases h1;exact cY<|sZ<|aC rfl ⟨_,_,rfl,(h.row i m d h3 Y).kp<|iI I,rfl,.refl _⟩
 .refine ag<|bU am ?_;have B:=h.kp<|iI<|I.more<|.lst rows;exact ab<|wT<|aW<|aC rfl<|vb B.ins 2 rfl ⟨_,_,rfl,B.fin,ag<|bi ⟨rfl,I.more _⟩⟩
def tK{g a b l:D}(h:st1[p]? =some (.ins "Function"<|Cj t g a b l))(i:Nat)(hi:(Cj t g a b l)[i]? =some (f,d))(q:P d)(I:(((Cj t g a b l).take i).map (·.1)).contains f=false:=by(simp only[Cj,take_succ_cons,take_zero,map_cons,map_nil];decide+kernel)):∃n c fs d,D.ref p=.ref n/\st1[n]? =some (.ins c fs)/\fs.lookup f=some d/\c∈(["Function"]:List Str)/\P d:=⟨p,_,_,d,rfl,h,lk i hi I,.head _,q⟩
def e7{bs:List D}{g:D}(Y:Ri kvs)(hk:kvs.length<64)(hb:bs.length<=1000)(ha:FnAt st m tk g kvs rs bs):Wv (calls tab (k+3) kg [.ref m] st) (Fp st<|.tup [.tup tk,g,.tup<|kp kvs,.tup bs]):=by
 obtain⟨⟨a,b,h1,_,h2⟩,I⟩:=ha
 walk_at "call0"
 refine a_<|bH<|ab<|vp<|aW<|aC rfl<|tK h1 3 rfl ⟨_,_,_,rfl,h2,oB Y.i,⟨Y.r,hk⟩,?_⟩;rw[qv];refine ag<|bU am ?_;have h:=Gr.one st (.lst<|kp kvs);refine bo<|aQ<|ab<|aW<|aC rfl<|tK (h.at h1) 0 rfl ?_;refine ab<|aW<|aC rfl<|tK (h.at h1) 1 rfl<|ab<|aC rfl ?_;refine ab<|bH<|ab<|dH<|aW<|aC rfl<|tK (h.at h1) 4 rfl ⟨_,rfl,?_⟩;refine kU (ys:=bs) (by rw[length_map,I.1];exact ao hb (by decide)) (by rw[length_map,I.1]) (λi a d q1 q2 st1 J=>?_) λst1 J=>?_
 .rw[az] at q1;cases q3:rs[i]? with
  |none=>rw[q3] at q1;cases q1
  |some p=>rw[q3] at q1;cases q1;obtain⟨ps,rows,x,qs,e,rfl,hd,hB⟩:=I.2 i p d q3 q2;have B:=hB.kp (iI<|h.trans J);refine cY<|bV<|aC rfl ⟨_,_,_,42,rfl,B.ins,rfl,rfl,ag ?_⟩;refine Wv.mono (li hd.rl B) λy Z q=>?_;obtain⟨rfl,g3⟩:=q;exact⟨rfl,g3⟩
 .exact ag<|bU am<|ag<|bi ⟨rfl,h.trans<|J.more _⟩
end
def Lf(st:aV)(l:Nat):Prop:=∃ns:List Int,st[l]? =some (.lst<|ns.map .int)
noncomputable abbrev cO(c a:Int):O:= .dct [(.inr "count",.int c),(.inr "at",.int a)]
def Od(st:aV)(s:Nat):Prop:=∃c a:Int,st[s]? =some (cO c a)
def Sp(st:aV)(s:Nat):Prop:=∃c a:Int,st[s]? =some (cO c a)/\a<=c
structure Dr(l s:Nat)(st st':aV):Prop where
 le:st.length<=st'.length
 same:∀i,i<st.length->i≠l->i≠s->st'[i]? =st[i]?
 lf:Lf st' l
 od:Od st' s
 sp:Sp st s->Sp st' s
def Lf.gr(h:Lf st l)(g:Gr st st'):Lf st' l:=by obtain⟨ns,e⟩:=h;exact⟨ns,g.at e⟩
def Od.gr(h:Od st l)(g:Gr st st'):Od st' l:=by obtain⟨c,a,e⟩:=h;exact⟨c,a,g.at e⟩
def Sp.gr(h:Sp st l)(g:Gr st st'):Sp st' l:=by obtain⟨c,a,e,h⟩:=h;exact⟨c,a,g.at e,h⟩
def Dr.ne(h:Lf st l)(k:Od st s):l≠s:=λe=>by
 obtain⟨ns,e1⟩:=h;obtain⟨c,_,I⟩:=k
 simp_all
def Dr.of(h:Lf st l)(k:Od st s)(g:Gr st st'):Dr l s st st':=⟨g.le,λi hi _ _=>by obtain⟨t,rfl⟩:=g;rw[aI hi],h.gr g,k.gr g,λh=>h.gr g⟩
theorem Dr.trans{c:aV}(h:Dr l s a b)(k:Dr l s b c):Dr l s a c:=⟨ao h.le k.le,λi hi h1 I=>(k.same i (av hi h.le) h1 I).trans<|h.same i hi h1 I,k.lf,k.od,λz=>k.sp<|h.sp z⟩
def Dr.more(h:Dr l s a b)(o:O):Dr l s a (b++[o]):=h.trans<|.of h.lf h.od<|.one _ _
def Dr.gr{c:aV}(h:Dr l s a b)(g:Gr b c):Dr l s a c:=h.trans<|.of h.lf h.od g
def Dr.at(h:Dr l s a b)(e:a[i]? =some o)(h1:i≠l)(I:i≠s):b[i]? =some o:=by rw[h.same i (au e).1 h1 I];exact e
section
variable{k l s:Nat}{st:aV}{Q:D->aV->Prop}
def lS(I:st[m]? =some (.lst xs))(h:st[n]? =some (.lst [])):dX 60 st (.ref m) (.ref n)=some xs.isEmpty:=by unfold dX;simp only[shape,I,h];cases xs<;>rfl
def dJ(J:Lf st l)(ho:Od st s)(h:∀w st1,Dr l s st st1->Q (.int w) st1):Wv (calls tab (k+1) jU [.ref l] st) Q:=by
 have I:=Dr.ne J ho;have Z:=J;obtain⟨ns,e⟩:=Z
 walk_at "call0"
 have Y:=Gr.one st<|.lst [];refine eE<|bn<|aC rfl<|br<|ag<|w_eq (lS (aF e) am) ⟨_,rfl,λhz=>?_,λhz=>?_⟩
 .exact bo<|aN<|cI<|bi<|h 0 _<|.of J ho Y
 .refine aR<|bv<|bo<|vt<|aC rfl ?_;cases ns with
  |nil=>cases hz
  |cons x ns=>
   refine⟨_,_,_,rfl,aF e,bi<|h x _ ?_⟩;refine(Dr.of J ho Y).trans ⟨by simp,λi hi h1 h2=>by rw[aS<|Ne.symm h1],⟨ns,cA ?_⟩,?_,λz=>?_⟩
   .exact av (au e).1 Y.le
   .obtain⟨c,a,e2⟩:=ho.gr Y;exact⟨c,a,sn e2 I⟩
   .obtain⟨c,a,e2,h⟩:=z;exact⟨c,a,sn e2 I,h⟩
def Ak(hl:Lf st l)(ho:Od st s)(h:∀b st1,Dr l s st st1->(b=true->¬Sp st s/\Sp st1 s)->Q (.bl b) st1):Wv (calls tab (k+1) rF [.ref s] st) Q:=by
 have Z:=Dr.ne hl ho;have Y:=ho;obtain⟨c,a,e⟩:=Y
 walk_at "call0"
 have hs:s<st.length:=(au e).1;refine dB<|aZ<|bu<|aC rfl<|aN<|kW e (by rfl)<|aN<|w_add<|aC rfl<|aN<|cq e rfl (by simp) ?_
 have I:(st.set s<|.dct<|bw [(.inr "count",.int c),(.inr "at",.int a)] (.inr "count")<|.int<|c+1)[s]? =some (cO (c+1) a):=(cA hs).trans rfl
 have un:∀{c' a':Int},st[s]? =some (cO c' a')->c'=c/\a'=a:=λ{c' a'} e'=>by
  simp_all
 refine bo<|bn<|bu<|aC rfl<|aN<|kW I (by rfl)<|bu<|aC rfl<|aN<|kW I (by rfl)<|jO<|bi ?_
 refine h _ _ ⟨by rw[aG];exact af _,λi hi h1 h2=>by rw[aS<|Ne.symm h2],by obtain⟨ns,e3⟩:=hl;exact⟨ns,sn e3<|Ne.symm Z⟩,⟨c+1,a,I⟩,λz=>?_⟩ λJ=>⟨λz=>?_,c+1,a,I,?_⟩
 .obtain⟨c',a',e',h'⟩:=z;obtain⟨rfl,rfl⟩:=un e';exact⟨_,_,I,by lia⟩
 .have J:c+1=a:=of_decide_eq_true J;obtain⟨c',a',e',h'⟩:=z;obtain⟨rfl,rfl⟩:=un e'
  lia
 .have J:c+1=a:=of_decide_eq_true J
  lia
def iK{a:List S}{Q:Fl->aV->Prop}(h1:loc[1]? =some (some<|.ref s))(Z:Lf st l)(ho:Od st s)(Y:∀st1,Dr l s st st1->¬Sp st s->Sp st1 s->W (execs (calls tab<|k+1) a loc st1) (Kn (calls tab<|k+1) ss Q))(h:∀st1,Dr l s st st1->W (execs (calls tab<|k+1) ss loc st1) Q):W (execs (calls tab<|k+1) (.ite (.fn 3 [.v 1]) a []::ss) loc st) Q:=
 eE (ck<|ab<|aC h1<|ag<|Ak Z ho λb st1 J I=>⟨b,rfl,λe=>Y st1 J (I e).1 (I e).2,λ_=>aR<|bv<|h st1 J⟩)
def dh{i m:Int}(J:st[n]? =some (.lst xs))(Y:0<m)(Z:m<=xs.length)(h:∀x,x∈xs->Q x st):W (index (.ref n) (.int<|i % m) st) Q:=
 hV J (emod_nonneg i (by lia)) (Int.lt_of_lt_of_le (bG i Y) Z) λx I _=>h x I
end
def wG{s:Str}{i:Int}:kK (.tup [.str s,.int i]):= .tup (m:=0)<|all2 cv eO
def FN{s:Str}{i:Bool}:kK (.tup [.str s,.bl i]):= .tup (m:=0)<|all2 cv vW
theorem vE:∀{kvs:List (Key×D)}{k:Key}{d:D},d_ kvs k=some d->∃p∈kvs,p.2=d
 |p::r,k,d,h=>by
  unfold d_ at h;split at h
  .simp_all
  .obtain⟨q,I,e⟩:=vE h;exact⟨q,.tail _ I,e⟩
def Sn(sv:List (Key×D)):Prop:=(∀p∈sv,(∃i,p.1=Sum.inl i)/\Kd p.2)/\sv.length<=1000
def Kd.sm(h:Kd d):Sm 1 d:=by
 rcases h with rfl|rfl|rfl
 .trivial
 .trivial
 trivial
def tD{a b:D}(I:Kd a)(h:Kd b):∃k,dX 60 st a b=some k:=by rcases I with rfl|rfl|rfl<;>rcases h with rfl|rfl|rfl<;>exact⟨_,rfl⟩
theorem pd:∀{sv:List (Key×D)}{p:Key×D},p∈sv->∃d,d_ sv p.1=some d
 |q::r,p,h=>by
  unfold d_;split
  .simp
  .rename_i I;rcases mem_cons.mp h with rfl|h
   .trivial
   .exact pd h
theorem w5{all:List (Key×D)}{y:D}(Z:Kd y)(Y:Sn all):∀{sub:List (Key×D)},(∀p∈sub,p∈all)->∃ks,rp all y sub=some ks/\(∀x∈ks,∃i,x=.int i)/\ks.length<=sub.length
 |[],_=>⟨[],rfl,bP,af _⟩
 |p::r,h=>by
  obtain⟨ks,h1,h2,h3⟩:=w5 Z Y λq J=>h q<|.tail _ J;obtain⟨d,hd⟩:=pd<|h p<|.head _;obtain⟨q,J,rfl⟩:=vE hd;obtain⟨b,hb⟩:=tD (st:=[]) (Y.1 q J).2 Z;obtain⟨i,hi⟩:=(Y.1 p<|h p<|.head _).1;unfold rp;rw[hd];simp only[bind_some,hb,h1];refine⟨_,rfl,λx I=>?_,?_⟩
  .cases b with
   |true=>
    rcases mem_cons.mp I with rfl|I
    .rw[hi];exact⟨i,rfl⟩
    .exact h2 x I
   |false=>exact h2 x I
  .cases b with
   |true=>exact succ_le_succ h3
   |false=>exact le_succ_of_le h3
theorem oV{st:aV}{y:D}(I:Kd y):∀{xs:List D},(∀x∈xs,Kd x)->∃k,cN st y xs=some k
 |[],_=>⟨_,rfl⟩
 |x::xs,h=>by obtain⟨a,Z⟩:=tD (h x<|.head _) I;obtain⟨b,Y⟩:=oV I λz J=>h z<|.tail _ J;unfold cN;rw[Z,Y];simp
def Sn.nr(h:Sn sv):ig (sv.map (·.2))=true:=lC λx I=>by obtain⟨p,J,rfl⟩:=mem_map.mp I;exact(h.1 p J).2.sm.1
section
variable{k l s d:Nat}{st:aV}{Q:D->aV->Prop}{sv:List (Key×D)}
def jp(Z:Kd kd)(hl:Lf st l)(ho:Od st s)(hd:st[d]? =some (.dct sv))(h1:d≠l)(h2:d≠s)(hs:Sn sv)(h:∀o st1,kK o->Dr l s st st1->Q o st1):Wv (calls tab (k+2) lM [.ref l,.ref s,.ref d,kd] st) Q:=by
 walk_at "call0"
 refine a_<|ck<|ab<|aC rfl<|ag<|dJ hl ho λw st1 D1=>?_;refine iK rfl D1.lf D1.od (λI D2 _ _=>?_) λI D2=>?_
 .refine a_<|br<|ab<|aQ<|ab<|aN<|ab<|aN<|ag<|ab<|aQ<|ab<|aN<|ab<|aN<|ag<|ab<|aQ<|ab<|aN<|ab<|aN<|ag ?_;refine ab (aQ<|ab<|aN<|ab<|aN<|ag<|ab<|aQ<|ab<|aN<|ab<|aN<|ag<|ab<|aQ<|ab<|aN<|ab<|aZ<|aC rfl<|aN<|w_mod (by decide)<|ag<|ag ?_)
  refine bo<|bu<|aC rfl<|aZ<|aZ<|aC rfl<|aN<|cQ (by decide)<|aN<|w_mod (by decide)<|dh am (by decide) (by simp) λx J=>cI<|bi<|h x _ ?_<|(D1.trans D2).more _
  exact(bh wG<|bh FN<|bh wG<|bh wG<|bh FN<|bh wG bP) x J
 have D3:=D1.trans D2;have hd3:=D3.at hd h1 h2;obtain⟨ks,hks,hi,hkl⟩:=w5 Z hs (sub:=sv) λp hp=>hp;refine a_<|C5 rfl rfl hd3 ⟨Z.sm.1,hs.nr,hs.2⟩ hks ?_;have D4:=D3.more<|.lst ks;obtain⟨b,hb⟩:=oV (st:=I++[.lst ks]) Z (xs:=[kN,kT])<|all2 (.inl rfl)<|.inr<|.inl rfl;have lens:ks.length<=1000:=ao hkl hs.2
 have fin:∀{st':aV},Dr l s st st'->st'[I.length]? =some (.lst ks)->∀{loc:Loc},loc[4]? =some (some<|.int w)->loc[5]? =some (some<|.ref I.length)->∀{P:Fl->aV->Prop},(∀o st1,kK o->Dr l s st st1->P (.rt o) st1)->W (execs (calls tab<|k+1) [.ret<|.tup [.c<|.str "name",.ix (.bin .add (.v 5)<|.lst [.c<|.int<|78])<|.bin .mod (.bin .fdiv (.v 4)<|.c<|.int<|4)<|.bt .max [.c<|.int<|1,.bt .len [.v 5]]]] loc st') P:=λ{st'} Y h' {loc} h4 h5 {P} hP=>by
  refine bo<|aQ<|ab<|aN<|ab<|bu<|aZ<|aC h5<|br<|ab<|aN<|ag<|cZ (aF h') am ?_ ?_
  .simp only[length_cons,length_nil];lia
  refine aZ<|aZ<|aC h4<|aN<|cQ (by decide) ?_
  refine bH<|ab<|aN<|ab<|bH<|ab<|aC h5<|ag<|gp (aF<|aF h')<|ag<|Ag<|w_mod ?_ ?_
  .split<;>lia
  generalize hm:(if(ks.length:Int)>1 then(ks.length:Int) else 1)=m
  have hm0:0<m/\m<=ks.length+1:=by subst hm;split<;>lia
  have p1:=emod_nonneg (w / 4) (show m≠0 by omega)
  have p2:=bG (w / 4) hm0.1;refine hV am p1 (by simp only[length_append,length_cons,length_nil];lia) λx J _=>?_
  have:∃i,x=.int i:=by
   rcases mem_append.mp J with J|J
   .exact hi x J
   .rcases mem_cons.mp J with rfl|J
    .exact⟨_,rfl⟩
    .cases J
  obtain⟨i,rfl⟩:=this;exact ag<|hP _ _ wG<|(Y.more _).more _
 have e5:(I++[O.lst ks])[I.length]? =some (.lst ks):=am;refine eE<|w_or<|bn<|aC rfl<|aQ<|ab<|aQ<|ab<|aN<|ag<|ab<|aQ<|ab<|aN<|ag<|ag<|yh hb ⟨_,rfl,λhz=>⟨_,rfl,λ_=>?_,nofun⟩,λhz=>?_⟩
 .exact fin D4 e5 rfl rfl λo st' ho Y=>cI<|bi<|h o st' ho Y
 have hkd:kd=kN\/kd=kT:=by
  rcases Z with e|e|e
  .exact .inl e
  .exact .inr e
  .subst e;have:cN (I++[O.lst ks]) kR [kN,kT]=some false:=rfl;rw[this] at hb;cases hb;cases hz
 have last:∀{st':aV},Dr l s st st'->W (execs (calls tab<|k+1) [.ite (.cmp .Eq (.v 3)<|.tup [.c<|.str "num"]) [.ret<|.tup [.c<|.str "num",.bin .sub (.bin .fdiv (.v 4)<|.c<|.int<|4)<|.c<|.int<|9]] [],.ret<|.tup [.c<|.str "truth",.cmp .Eq (.bin .mod (.bin .fdiv (.v 4)<|.c<|.int<|4)<|.c<|.int<|2)<|.c<|.int<|0]] [some<|.ref l,some<|.ref s,some<|.ref d,some kd,some<|.int w,some<|.ref I.length] st') (Kr Q):=λ{st'} Y=>by
  obtain⟨b2,hb2⟩:=tD (st:=st') Z (.inl rfl:Kd kN);refine eE<|bn<|aC rfl<|aQ<|ab<|aN<|ag<|w_eq hb2 ⟨_,rfl,λ_=>?_,λ_=>?_⟩
  .exact bo<|aQ<|ab<|aN<|ab<|aZ<|aZ<|aC rfl<|aN<|cQ (by decide)<|aN<|w_sub<|ag<|cI<|bi<|h _ _ wG Y
  .exact aR<|bv<|bo<|aQ<|ab<|aN<|ab<|bn<|aZ<|aZ<|aC rfl<|aN<|cQ (by decide)<|aN<|w_mod (by decide)<|aN<|jO<|ag<|bi<|h _ _ FN Y
 refine w_and<|bn<|aC rfl<|br<|ag<|j6 (lS (aF e5) am) ⟨_,rfl,λhz2=>?_,λhz2=>⟨_,rfl,nofun,λ_=>aR<|bv<|last<|D4.more _⟩⟩;refine bn<|aZ<|aC rfl<|aN<|w_mod (by decide)<|aN<|AN ⟨_,rfl,λ_=>?_,λ_=>?_⟩
 .exact fin (D4.more _) (aF e5) rfl rfl λo st' ho Y=>cI<|bi<|h o st' ho Y
 .exact aR<|bv<|last<|D4.more _
end
def Fc(x:D):Prop:=∃op ex tk gv,x=.tup [.str op,ex,.tup tk,gv]/\kK ex/\(∀t∈tk,Kd t)/\tk.length<=2/\(gv=.non\/Kd gv)
def cn{a b:List D}(h1:∀x∈a,P x)(I:∀x∈b,P x):∀x∈a++b,P x:=λx h=>(mem_append.mp h).elim (h1 x)<|I x
def rk{op:Str}{ex h:D}(Y:kK ex)(I:(∀t∈tk,Kd t)/\tk.length<=2)(J:h=.non\/Kd h):Fc (.tup [.str op,ex,.tup tk,h]):=⟨_,_,_,_,rfl,Y,I.1,I.2,J⟩
def B6{a:D}(h:Kd a):(∀t∈[a],Kd t)/\[a].length<=2:=⟨bh h bP,by simp⟩
def B5{a b:D}(h:Kd a)(k:Kd b):(∀t∈[a,b],Kd t)/\[a,b].length<=2:=⟨all2 h k,by simp⟩
def iu:Kd kN:= .inl rfl
def sV:Kd kT:= .inr<|.inl rfl
def x4:Kd kR:= .inr<|.inr rfl
def x0:kK .non:=vV
def xi{i:Int}:kK (.int i):=eO
def Gh{i:Str}:kK (.str i):=cv
def xR:kK kR:=x4.sm
section
variable{k l s d:Nat}{st:aV}{Q:D->aV->Prop}{sv:List (Key×D)}
def v5(hl:Lf st l)(ho:Od st s)(hd:st[d]? =some (.dct sv))(hs:Sn sv)(h:∀x st1,Fc x->Dr l s st st1->Q x st1):Wv (calls tab (k+1) jB [.int w,.ref d] st) Q:=by
 walk_at "call"
 refine cZ (aF am) am (by simp) ?_
 walk_at "ev"
 refine cW am ?_
 walk_at "ev"
 refine cM am (by simp) ?_
 rw[bN]
 walk_at "ev"
 refine cZ (aF am) am (by simp) ?_
 walk_at "ev"
 refine cZ (aF am) am (by simp) ?_
 walk_at "ev"
 have I:∀x∈sv.map (·.2),Kd x:=λx Z=>by obtain⟨p,hp,rfl⟩:=mem_map.mp Z;exact(hs.1 p hp).2
 have L:∀x∈([.tup [.str "add",.non,.tup [kN,kN],kN],.tup [.str "less",.non,.tup [kN,kN],kT],.tup [.str "neg",.non,.tup [kN],kN]]:List D)++[.tup [.str "and",.non,.tup [kT,kT],kT],.tup [.str "copy",.non,.tup [kN],kN]]++[.tup [.str "copy",.non,.tup [kT],kT]]++[.tup [.str "make",kR,.tup [kN,kN],kR],.tup [.str "sub",.non,.tup [kN,kN],kN],.tup [.str "log",.non,.tup [kN],.non]]++[.tup [.str "log",.non,.tup [kT],.non],.tup [.str "tick",.non,.tup [],.non],.tup [.str "same",.non,.tup [kN,kN],kT]],Fc x:=
  cn (cn (cn (cn (bh (rk x0 (B5 iu iu)<|.inr iu)<|bh (rk x0 (B5 iu iu)<|.inr sV)<|bh (rk x0 (B6 iu)<|.inr iu) bP)<|bh (rk x0 (B5 sV sV)<|.inr sV)<|bh (rk x0 (B6 iu)<|.inr iu) bP)<|bh (rk x0 (B6 sV)<|.inr sV) bP)<|bh (rk xR (B5 iu iu)<|.inr x4)<|bh (rk x0 (B5 iu iu)<|.inr iu)<|bh (rk x0 (B6 iu)<|.inl rfl) bP) (bh (rk x0 (B6 sV)<|.inl rfl)<|bh (rk x0 ⟨bP,by simp⟩<|.inl rfl)<|bh (rk x0 (B5 iu iu)<|.inr sV) bP)
 have J:∀{st':aV}{xs:List D}{m:Nat},st'[m]? =some (.lst xs)->(∀x∈xs,Fc x)->0<xs.length->Dr l s st st'->∀{loc:Loc},loc[0]? =some (some<|.int w)->loc[5]? =some (some<|.ref m)->W (execs (calls tab k) [.ret<|.ix (.v 5)<|.bin .mod (.v 0)<|.bt .len [.v 5]] loc st') (Kr Q):=λ{st' xs m} hm Z h0 D' {loc} h4 h5=>by
  refine bo<|bu<|aC h5<|aZ<|aC h4<|bH<|ab<|aC h5<|ag<|gp hm<|w_mod (by omega) ?_
  have p1:=emod_nonneg w (show(xs.length:Int)≠0 by omega)
  have p2:=bG w (show(0:Int)<xs.length by omega)
  exact hV hm p1 p2 λx Y _=>bi<|h x _ (Z x Y) D'
 refine⟨d,sv,(oV x4 I).choose,rfl,aF<|aF<|aF<|aF<|aF<|aF<|aF hd,(oV x4 I).choose_spec,_,rfl,λ_=>?_,λ_=>?_⟩
 .refine a_<|aZ<|aC rfl<|br<|ab<|aQ<|ab<|aN<|ab<|aN<|ab<|aQ<|ab<|aC rfl<|ag<|ab<|aC rfl<|ag ?_;refine ab<|aQ<|ab<|aN<|ab<|aN<|ab<|aQ<|ab<|aC rfl<|ab<|aC rfl<|ag<|ab<|aC rfl<|ag ?_;refine ab<|aQ<|ab<|aN<|ab<|aN<|ab<|aQ<|ab<|aC rfl<|ag<|ab<|aC rfl<|ag<|ag ?_;refine cZ (aF am) am (by simp) (aR<|bv<|J am (cn L<|bh (rk xi (B6 x4)<|.inr iu)<|bh (rk xi (B5 x4 iu)<|.inr x4)<|bh (rk x0 (B6 x4)<|.inr x4) bP) (by simp) ?_ rfl rfl)
  exact .of hl ho<|(((((((((Gr.one _ _).more _).more _).more _).more _).more _).more _).more _).more _)
 .refine aR (bv<|J am L (by simp) ?_ rfl rfl)
  exact .of hl ho<|(((((((Gr.one _ _).more _).more _).more _).more _).more _).more _)
end
def xY(S:List Nat)(st st':aV):Prop:=st.length<=st'.length/\∀i,i<st.length->i∉S->st'[i]? =st[i]?
theorem xY.trans{S:List Nat}{c:aV}(h:xY S a b)(k:xY S b c):xY S a c:=⟨ao h.1 k.1,λi hi I=>(k.2 i (av hi h.1) I).trans<|h.2 i hi I⟩
def xY.at{S:List Nat}(h:xY S a b)(e:a[i]? =some o)(I:i∉S):b[i]? =some o:=by rw[h.2 i (au e).1 I];exact e
theorem xY.set{S:List Nat}(h:n∈S):xY S a (a.set n o):=⟨by simp,λi _ I=>by rw[aS (λe:n=i=>I<|e▸h)]⟩
def Dr.ex{S:List Nat}(h:Dr l s a b)(h1:l∈S)(J:s∈S):xY S a b:=⟨h.le,λi hi I=>h.same i hi (λe=>I<|e▸h1) λe=>I<|e▸J⟩
section
variable{k l s d c:Nat}{st:aV}{Q:D->aV->Prop}{sv:List (Key×D)}
def nK{f:D->M (Option D)}{Y:Src}{L:List D}(hl:Lf st l)(ho:Od st s)(hn:dn Y st<=20)(hL:L.length<=dn Y st)(nx:∀i st1,Dr l s st st1->iT Y i st1=some L[i]?)
  (step:∀x∈L,∀st1,Dr l s st st1->∀P:Option D->aV->Prop,(∀o I,kK o->Dr l s st1 I->P (some o) I)->W (f x st1) P)(h:∀os st1,qu os->os.length=L.length->Dr l s st st1->Q (.ref st1.length) (st1++[.lst os])):W (bY f Y st) Q:=by
 refine eI (L:=L) (ao hn (by decide)) hL (λi acc st1=>Dr l s st st1/\(∀o∈acc,kK o)/\acc.length=i) ⟨.of hl ho<|.refl _,bP,rfl⟩ (λi acc st1 J=>nx i st1 J.1) (λi x acc st1 e J=>?_)<|λacc st1 J=>?_
 .obtain⟨Z,h1,h2⟩:=J;exact step x (ah e) st1 Z _ λo I h3 D2=>⟨Z.trans D2,cn h1<|bh h3 bP,by rw[aD,h2];rfl⟩
 .obtain⟨Z,h1,h2⟩:=J;exact h acc st1 ⟨h1,by lia⟩ h2 Z
def su{Z Y J:Nat}(hk:Kd kd)(I:Dr l s st st1)(hd:st[d]? =some (.dct sv))(h1:d≠l)(h2:d≠s)(hs:Sn sv)(e1:loc[Z]? =some (some<|.ref l))(e2:loc[Y]? =some (some<|.ref s))(e3:loc[J]? =some (some<|.ref d))(P:Option D->aV->Prop)(hP:∀o h,kK o->Dr l s st1 h->P (some o) h):
  W ((bg (run (calls tab<|k+2) (.fn 4 [.v<|Z+1,.v<|Y+1,.v<|J+1,.v 0])<|some kd::loc) λy=>ret<|some y) st1) P:=
 cY (ck<|ab<|aC (by trivial)<|ab<|aC (by trivial)<|ab<|aC (by trivial)<|ab<|aC rfl<|ag<|jp hk I.lf I.od (I.at hd h1 h2) h1 h2 hs hP)
def yU:∀{kvs:List (Key×D)}{k:Key}{v:D}{p:Key×D},p∈bw kvs k v->p∈kvs\/p=(k,v)\/(p.2=v/\∃q∈kvs,q.1=p.1):=by
 intro kvs k v p h;unfold bw at h;split at h
 .obtain⟨q,I,rfl⟩:=mem_map.mp h;split
  .exact .inr<|.inr ⟨rfl,q,I,rfl⟩
  .exact .inl I
 .rcases mem_append.mp h with h|h
  .exact .inl h
  .rcases mem_cons.mp h with rfl|h
   .exact .inr<|.inl rfl
   .cases h
def kx{k:Key}:(bw kvs k v).length<=kvs.length+1:=by
 unfold bw;split
 .simp
 simp
def Sn.put{i:Int}(h:∀p∈sv,(∃i,p.1=Sum.inl i)/\Kd p.2)(J:Kd v):∀p∈bw sv (.inl i) v,(∃i,p.1=Sum.inl i)/\Kd p.2:=λp I=>by
 rcases yU I with I|rfl|⟨e,q,hq,e2⟩
 .exact h p I
 .exact⟨⟨i,rfl⟩,J⟩
 .rw[<-e2,e];exact⟨(h q hq).1,J⟩
def va(sv:List (Key×D)):Prop:=∀p∈sv,(∃i,p.1=Sum.inl i)/\Kd p.2
noncomputable def rg(n:Nat):List Int:=(range n).map λ(i:Nat)=>(i:Int)
def nZ:rg (n+1)=rg n++[(n:Int)]:=by unfold rg;rw[range_succ,map_append];rfl
def lF{i:Int}:i∈rg n↔0<=i/\i<n:=by
 unfold rg;rw[mem_map];constructor
 .rintro⟨a,I,rfl⟩
  simp_all
 .intro h;exact⟨i.toNat,mem_range.mpr (by lia),by lia⟩
def sD(n:Nat):(rg n).Pairwise (· < ·):=by unfold rg;exact Pairwise.map _ (λa b h=>Int.ofNat_lt.mpr h) List.pairwise_lt_range
structure Kk(st:aV)(s:Nat)(kv:List (Key×D)):Prop where
 sn:va kv
 k:ky kv=rg kv.length\/(Sp st s/\∃m:Nat,kv.length=m+1/\ky kv=rg m++[(m:Int)+1])
def Kk.sp{st:aV}{s:Nat}(h:Kk st s kv)(k:Sp st s->Sp st' s):Kk st' s kv:=⟨h.sn,h.k.imp id λz=>⟨k z.1,z.2⟩⟩
def Kk.ri{st:aV}{s:Nat}(h:Kk st s kv):Ri kv:=⟨λp I=>(h.sn p I).1,by
 rcases h.k with e|⟨_,m,_,e⟩
 .rw[e];exact sD _
 .rw[e,List.pairwise_append];refine⟨sD _,List.pairwise_singleton ..,λa Y b J=>?_⟩;have:=lF.mp Y;have:=mem_singleton.mp J;omega⟩
def Kk.le{st:aV}{s:Nat}(h:Kk st s kv){i:Int}(hi:i∈ky kv):i<=kv.length:=by
 rcases h.k with e|⟨_,m,hm,e⟩
 .rw[e] at hi;have:=lF.mp hi
  lia
 .rw[e] at hi;rcases mem_append.mp hi with hi|hi
  .have:=lF.mp hi
   lia
  simp_all
def ow{k:Int}(h:xX kv):(k∈ky kv/\ky (bw kv (.inl k) v)=ky kv/\(bw kv (.inl k) v).length=kv.length)\/(k∉ky kv/\ky (bw kv (.inl k) v)=ky kv++[k]/\(bw kv (.inl k) v).length=kv.length+1):=by
 by_cases hc:(kv.any λp=>decide<|p.1=.inl k)=true
 .refine .inl ⟨?_,?_,?_⟩
  .obtain⟨p,I,e⟩:=any_eq_true.mp hc;exact mem_map.mpr ⟨p,I,by rw[of_decide_eq_true e];rfl⟩
  .unfold bw ky;rw[if_pos hc,map_map];refine List.map_congr_left λp _=>?_;show uC (if p.1=Sum.inl k then(p.1,v) else p).1=uC p.1
   split<;>rfl
  .unfold bw;rw[if_pos hc,length_map]
 .have e:bw kv (.inl k) v=kv++[(.inl k,v)]:=by unfold bw;rw[if_neg hc]
  refine .inr ⟨λY=>hc ?_,?_,?_⟩
  .obtain⟨p,I,J⟩:=mem_map.mp Y;obtain⟨i,Z⟩:=h p I;refine any_eq_true.mpr ⟨p,I,decide_eq_true ?_⟩;rw[Z] at J ⊢;exact congrArg Sum.inl J
  .rw[e];unfold ky;rw[map_append];rfl
  .rw[e,aD];rfl
theorem Kk.put{st:aV}{s:Nat}(h:Kk st s kv)(I:Kd v):Kk st s (bw kv (.inl (kv.length:Int)) v):=⟨Sn.put h.sn I,by
 rcases ow h.ri.i with⟨_,e1,e2⟩|⟨hn,e1,e2⟩
 .rw[e1,e2];exact h.k
 .rcases h.k with e|⟨_,m,hm,e⟩
  .exact .inl (by rw[e1,e2,e,nZ])
  simp_all⟩
def Kk.odd{st:aV}{s:Nat}{j:Int}(h:Kk st s kv)(I:Kd v)(h0:¬Sp st s)(h1:Sp st' s)(J:0<=j/\j<kv.length+2):Kk st' s (bw kv (.inl j) v):=⟨Sn.put h.sn I,by
 have e:ky kv=rg kv.length:=by
  rcases h.k with e|⟨z,_⟩
  .exact e
  trivial
 rcases ow (k:=j) h.ri.i with⟨_,e1,e2⟩|⟨hn,e1,e2⟩
 .exact .inl (by rw[e1,e2,e])
 .rw[e,lF] at hn;by_cases hz:j=kv.length
  .exact .inl (by rw[e1,e2,e,nZ,hz])
  .exact .inr ⟨h1,_,e2,by rw[e1,e,show j=(kv.length:Int)+1 by lia]⟩⟩
def qu.cut(h:qu xs):qu (cutD xs lo hi):=⟨λo ho=>h.1 o<|List.mem_of_mem_drop<|List.mem_of_mem_take ho,ao (by unfold cutD;rw[length_take,length_drop];lia) h.2⟩
def s_row(hl:Lf st l)(ho:Od st s)(hd:st[d]? =some (.dct sv))(hc:st[c]? =some (.dct kv))(h1:d≠l)(h2:d≠s)(h3:c≠l)(h4:c≠s)(h5:c≠d)(hs:Sn sv)(hk:Kk st s kv)(hkl:kv.length<=1000)
  (h:∀row sv' kv' st1,RowD row->xY [l,s,d,c] st st1->Lf st1 l->Od st1 s->st1[d]? =some (.dct sv')->st1[c]? =some (.dct kv')->va sv'->sv'.length<=sv.length+1->Kk st1 s kv'->kv'.length<=kv.length+1->(Sp st s->Sp st1 s)->Q row st1):Wv (calls tab (k+3) jD [.ref l,.ref s,.ref d,.ref c] st) Q:=by
 walk_at "call0"
 refine a_<|ck<|ab<|aC rfl<|ag<|dJ hl ho λw st1 D1=>?_;refine kP<|ck<|ab<|aC rfl<|ab<|aC rfl<|ag<|v5 D1.lf D1.od (D1.at hd h1 h2) hs λx st2 hx D2=>?_;obtain⟨op,ex,tk,gv,rfl,J,htk,htl,hgv⟩:=hx;have D3:=D1.trans D2
 have rC:∀{Z:aV}{op:Str}{ex gv:D}{os:List D}{Y:Option D}{j:Int},Dr l s st Z->kK ex->qu os->Kd gv->Kk Z s (bw kv (.inl j) gv)->W (execs (calls tab<|k+2) Gk [some<|.ref l,some<|.ref s,some<|.ref d,some<|.ref c,some<|.int w,some<|.str op,some ex,some<|.tup tk,some gv,some<|.tup os,Y,some<|.int j] Z) (Kr Q):=λ{Z op ex gv os Y j} D9 J I hgv hK=>by
  have hd9:=D9.at hd h1 h2;have hc9:=D9.at hc h3 h4;have ld:=(au hd9).1;have lc:=(au hc9).1;refine dB<|aC rfl<|aC rfl<|aC rfl<|cq hd9 rfl (lt_of_le_of_lt hs.2 (by decide)) ?_
  refine dB<|aC rfl<|aC rfl<|aC rfl<|cq (sn hc9<|Ne.symm h5) rfl (lt_of_le_of_lt hkl (by decide)) ?_
  have sp:Sp Z s->Sp ((Z.set d<|.dct<|bw sv (.inl j) gv).set c<|.dct<|bw kv (.inl j) gv) s:=λz=>by obtain⟨a,b,e,q⟩:=z;exact⟨a,b,sn (sn e h2) h4,q⟩
  refine bo<|aQ<|ab<|aC rfl<|ab<|aC rfl<|ab<|aC rfl<|ab<|aC rfl<|ag<|bi ?_;refine h _ (bw sv (.inl j) gv) (bw kv (.inl j) gv) _ (.mk _ _ _ _ (.int _) J I) (((D9.ex (.head _)<|.tail _<|.head _).trans<|.set (by simp)).trans<|.set (by simp)) ?_ ?_ (sn (cA ld) h5) (cA (by rw[aG];exact lc)) (Sn.put hs.1 hgv) kx (hK.sp sp) kx λz=>sp<|D9.sp z
  .obtain⟨ns,e⟩:=D9.lf;exact⟨ns,sn (sn e h1) h3⟩
  .obtain⟨a,b,e⟩:=D9.od;exact⟨a,b,sn (sn e h2) h4⟩
 have rB:∀{st8:aV}{op:Str}{ex:D}{os:List D}{Y:Option D},Dr l s st st8->kK ex->qu os->W (execs (calls tab<|k+2) Gm [some<|.ref l,some<|.ref s,some<|.ref d,some<|.ref c,some<|.int w,some<|.str op,some ex,some<|.tup tk,some gv,some<|.tup os,Y,none] st8) (Kr Q):=λ{st8 op ex os Y} D8 J I=>by
  have hd8:=D8.at hd h1 h2;have hc8:=D8.at hc h3 h4;rcases hgv with rfl|hgv
  .refine eE<|bn<|aC rfl<|aN<|w_is rfl ⟨_,rfl,λ_=>?_,nofun⟩;exact bo<|aQ<|ab<|aN<|ab<|aC rfl<|ab<|aC rfl<|ab<|aC rfl<|ag<|cI<|bi<|h _ _ _ _ (.mk _ _ _ _ .non J I) (D8.ex (.head _)<|.tail _<|.head _) D8.lf D8.od hd8 hc8 hs.1 (le_succ _) (hk.sp D8.sp) (le_succ _) D8.sp
  .have hno:B_ gv .non=some false:=by rcases hgv with rfl|rfl|rfl<;>rfl
   refine ie<|bn<|aC rfl<|aN<|w_is hno ⟨rfl,?_⟩;refine a_<|bH<|ab<|aC rfl<|ag<|qy hc8 ?_;refine iK rfl D8.lf D8.od (λZ D9 n9 s9=>?_) λZ D9=>rC (D8.trans D9) J I hgv<|(hk.sp (D8.trans D9).sp).put hgv;refine a_<|aZ<|aZ<|aC rfl<|aN<|cQ (by decide)<|aZ<|aC rfl<|aN<|w_add<|w_mod (by omega) ?_
   generalize hj:w / 16 % ((kv.length:Int)+2)=j
   have hj:0<=j/\j<kv.length+2:=by
    have p1:=emod_nonneg (w / 16) (show(kv.length:Int)+2≠0 by omega)
    have p2:=bG (w / 16) (show(0:Int)<kv.length+2 by omega)
    omega
   refine a_<|bu<|br<|ab<|aQ<|ab<|aN<|ag<|ab<|aQ<|ab<|aN<|ag<|ag<|aZ<|aC rfl<|aN<|w_mod (by decide)<|dh am (by decide) (by simp) λgv' hg=>aR<|bv<|rC ((D8.trans D9).more _) J I ?_ ?_
   .exact(bh iu<|bh sV bP) gv' hg
   .exact((hk.sp D8.sp).odd ((bh iu<|bh sV bP) gv' hg) n9 s9 hj).sp λz=>z.gr<|.one _ _
 have rA:∀{st6:aV}{op:Str}{ex:D}{os:List D}{Y:Option D},Dr l s st st6->kK ex->qu os->W (execs (calls tab<|k+2) Go [some<|.ref l,some<|.ref s,some<|.ref d,some<|.ref c,some<|.int w,some<|.str op,some ex,some<|.tup tk,some gv,some<|.tup os,Y,none] st6) (Kr Q):=λ{st6 op ex os Y} D6 J I=>by refine iK rfl D6.lf D6.od (λst7 D7 _ _=>?_) λst7 D7=>rB (D6.trans D7) J I;exact a_<|gm<|aC rfl<|aN ⟨_,rfl,r8<|aR<|bv<|rB (D6.trans D7) J I.cut⟩
 refine⟨_,rfl,rfl,a_<|bH<|ab<|dH<|aC rfl ⟨_,rfl,?_⟩⟩;refine nK (L:=tk) D3.lf D3.od (ao htl (by decide)) (af _) (λi st4 _=>rfl) (λx hx st4 D4 P hP=>su (htk x hx) D4 (D3.at hd h1 h2) h1 h2 hs rfl rfl rfl P hP) λos st4 I _ D4=>?_
 refine ag<|bU am ?_;have D5:=D3.trans (D4.more<|.lst os);refine iK rfl D5.lf D5.od (λst6 D6 _ _=>?_) λst6 D6=>rA (D5.trans D6) J I;refine a_<|br<|ab<|aQ<|ab<|aN<|ab<|aN<|ag<|ab<|aQ<|ab<|aN<|ab<|aN<|ag<|ab<|aQ<|ab<|aN<|ab<|aN<|ag<|ab<|aQ<|ab<|aN<|ab<|aN<|ag ?_;refine ab<|aQ<|ab<|aN<|ab<|aN<|ag<|ab<|aQ<|ab<|aN<|ab<|aN<|ag<|ab<|aQ<|ab<|aN<|ab<|aN<|ag<|ag ?_;refine kP<|bu<|aC rfl<|aZ<|aZ<|aC rfl<|aN<|cQ (by decide)<|aN<|w_mod (by decide)<|dh am (by decide) (by simp) λx hx=>?_
 have hx':∃o e,x=.tup [.str o,e]/\kK e:=(bh (P:=λx=>∃o e,x=.tup [.str o,e]/\kK e) ⟨_,_,rfl,x0⟩<|bh ⟨_,_,rfl,xi⟩<|bh ⟨_,_,rfl,xi⟩<|bh ⟨_,_,rfl,x0⟩<|bh ⟨_,_,rfl,x0⟩<|bh ⟨_,_,rfl,x0⟩<|bh ⟨_,_,rfl,Gh⟩ bP) x hx;obtain⟨o,e,rfl,he⟩:=hx';exact⟨_,rfl,rfl,aR<|bv<|rA ((D5.trans D6).more _) he I⟩
end
def Pr(ps:List D):Prop:=(∀x∈ps,∃i kd,x=.tup [.int i,kd]/\Kd kd)/\ps.length<=10
structure Pm(l s:Nat)(st:aV)(P:Nat)(qs:List Nat):Prop where
 at_:st[P]? =some (.lst<|qs.map .ref)
 each:∀q∈qs,∃ps,st[q]? =some (.lst ps)/\Pr ps
 nP:P≠l/\P≠s
 nq:∀q∈qs,q≠l/\q≠s
 few:qs.length<=10
def Pm.dr{P:Nat}(h:Pm l s st P qs)(J:Dr l s st st'):Pm l s st' P qs:=⟨J.at h.at_ h.nP.1 h.nP.2,λq I=>by obtain⟨ps,e,Y⟩:=h.each q I;exact⟨ps,J.at e (h.nq q I).1 (h.nq q I).2,Y⟩,h.nP,h.nq,h.few⟩
def Pm.ix{P:Nat}(h:Pm l s st P qs){i:Int}(h0:0<=i)(h1:i<qs.length)(k:∀q ps,qs[i.toNat]? =some q->st[q]? =some (.lst ps)->Pr ps->Q (.ref q) st):W (index (.ref P) (.int i) st) Q:=by
 refine hV h.at_ h0 (by simp_all) λd hd e=>?_
 rw[az] at e;cases e1:qs[i.toNat]? with
 |none=>simp_all
 |some q=>rw[e1] at e;cases e;obtain⟨ps,J,I⟩:=h.each q<|ah e1;exact k q ps e1 J I
def b0(h:Lf st l)(k:Od st s):st.length≠l/\st.length≠s:=by obtain⟨ns,e1⟩:=h;obtain⟨J,_,I⟩:=k;exact⟨bM (au e1).1,bM (au I).1⟩
noncomputable def jm:D->D
 | .tup [_,k]=>k
 |d=>d
noncomputable def xq:D->D
 | .tup [k,_]=>k
 |d=>d
def oQ(h:x∈cutD xs lo hi):x∈xs:=List.mem_of_mem_drop<|List.mem_of_mem_take h
def kI:(cutD xs lo hi).length<=xs.length:=by unfold cutD;rw[length_take,length_drop];omega
section
variable{k l s d P:Nat}{st:aV}{Q:D->aV->Prop}{sv:List (Key×D)}{qs:List Nat}
def vq{q:Nat}{ps:List D}{e:Ex}{F:D->D}(Y:st[q]? =some (.lst ps))(I:Pr ps)(he:∀i kd st1 (P:D->aV->Prop),Kd kd->P (F<|.tup [.int i,kd]) st1->W (run (calls tab k) e (some (.int i)::some kd::loc) st1) P)(h:∀st1,Gr st st1->Q (.ref st1.length) (st1++[.lst<|ps.map F])):W (bY (pairF λx y=>run (calls tab k) e<|some x::some y::loc) (.at q) st) Q:=by
 refine qw (F:=F) Y (ao I.2 (by decide)) (λx J st1 g=>?_) h
 obtain⟨i,kd,rfl,Z⟩:=I.1 x J;exact kq<|he i kd st1 _ Z ⟨rfl,.refl _⟩
def v7(hl:Lf st l)(ho:Od st s)(hd:st[d]? =some (.dct sv))(h1:d≠l)(h2:d≠s)(hs:Sn sv)(hp:Pm l s st P qs)(h:∀e st1,Edg e->Dr l s st st1->Q e st1):Wv (calls tab (k+3) pV [.ref l,.ref s,.ref d,.ref P,.int num,.int skip] st) Q:=by
 walk_at "call0"
 have eB:∀{J:aV}{num:Int}{cs:List D}{n:Nat},Dr l s st J->J[n]? =some (.lst cs)->(n≠l/\n≠s)->(∀x∈cs,Kd x)->cs.length<=10->W (execs (calls tab<|k+2) GD [some<|.ref l,some<|.ref s,some<|.ref d,some<|.ref P,some<|.int num,some<|.int skip,some<|.ref n,none] J) (Kr Q):=λ{J num cs n} D4 hn hne hks hkl=>by
  refine a_<|bH<|ab<|dH<|aC rfl ⟨_,rfl,?_⟩;have hL:dn (.at n) J=cs.length:=by simp only[dn,hn]
  refine nK (L:=cs) D4.lf D4.od (by rw[hL];exact ao hkl (by decide)) (by rw[hL];exact af _) (λi st5 D5=>by simp only[iT,D5.at hn hne.1 hne.2]) (λx hx st5 D5 P hP=>su (hks x hx) D5 (D4.at hd h1 h2) h1 h2 hs rfl rfl rfl P hP) λos st5 Z _ D5=>?_
  refine ag<|bU am ?_;have D6:=D4.trans (D5.more<|.lst os);have fin:∀{I:aV}{os:List D},Dr l s st I->qu os->W (execs (calls tab<|k+2) GC [some<|.ref l,some<|.ref s,some<|.ref d,some<|.ref P,some<|.int num,some<|.int skip,some<|.ref n,some<|.tup os] I) (Kr Q):=λ{I os} D7 Z=>bo (aQ<|ab<|aC rfl<|ab<|aC rfl<|ag<|bi<|h _ _ (.mk num os Z) D7);refine iK rfl D6.lf D6.od (λI D7 _ _=>?_) λI D7=>fin (D6.trans D7) Z;exact a_<|gm<|aC rfl<|aN ⟨_,rfl,r8<|aR<|bv<|fin (D6.trans D7) Z.cut⟩
 have eA:∀{st1:aV}{num:Int},Dr l s st st1->W (execs (calls tab<|k+2) GE [some<|.ref l,some<|.ref s,some<|.ref d,some<|.ref P,some<|.int num,some<|.int skip,none,none] st1) (Kr Q):=λ{st1 num} Y=>by
  refine a_<|br<|ag ?_;have D2:=Y.more<|.lst [];have nn:=b0 Y.lf Y.od;have P2:=hp.dr D2;refine eE<|sf<|aN<|aC rfl<|AK ⟨_,rfl,λz0=>bH<|ab<|aC rfl<|ag<|gp P2.at_<|w_lt ⟨_,rfl,λz1=>?_,λhz=>?_⟩,λhz=>⟨_,rfl,nofun,λ_=>?_⟩⟩
  .have n0:0<=num:=of_decide_eq_true z0
   have n1:num<qs.length:=by have:=of_decide_eq_true z1;rwa [length_map] at this
   refine a_<|gm<|fv<|bu<|aC rfl<|aC rfl<|P2.ix n0 n1 λq ps hq eq hps=>⟨_,rfl,?_⟩;refine vq (F:=jm) eq hps (λi kd st3 P hk hP=>aC rfl hP) λst3 g3=>aC rfl ⟨_,rfl,o8 am ?_⟩;have D5:=D2.gr<|g3.more<|.lst<|ps.map jm;refine aR<|bv<|eB (D5.more _) am (b0 D5.lf D5.od) (λx hx=>?_)<|ao kI (by rw[length_map];exact hps.2)
   obtain⟨y,hy,rfl⟩:=mem_map.mp<|oQ hx;obtain⟨i,kd,rfl,hk⟩:=hps.1 y hy;exact hk
  .exact aR<|bv<|eB D2 am nn bP (by simp)
  .exact aR<|bv<|eB D2 am nn bP (by simp)
 refine iK rfl hl ho (λst1 Y _ _=>?_) λst1 Y=>eA Y;have P1:=hp.dr Y;refine a_<|bu<|br<|ab<|aN<|ab<|bH<|ab<|aC rfl<|ag<|gp P1.at_<|ab<|aN<|ab<|aN<|ab<|aN<|ag ?_;have D2:=Y.more<|.lst [.int 0,.int ((qs.map D.ref).length:Nat),.int<|-1,.int 99,.int 1];have nn:=b0 Y.lf Y.od;refine aZ<|ck<|ab<|aC rfl<|ag<|dJ D2.lf D2.od λw st3 D3=>aN<|w_mod (by decide)<|dh (D3.at am nn.1 nn.2) (by decide) (by simp) λx hx=>?_
 have hx':∃i:Int,x=.int i:=(bh (P:=λx=>∃i:Int,x=.int i) ⟨_,rfl⟩<|bh ⟨_,rfl⟩<|bh ⟨_,rfl⟩<|bh ⟨_,rfl⟩<|bh ⟨_,rfl⟩ bP) x hx;obtain⟨i,rfl⟩:=hx';exact aR<|bv<|eA<|D2.trans D3
end
section
variable{k l s d P:Nat}{st:aV}{Q:D->aV->Prop}{sv:List (Key×D)}{qs:List Nat}
def CL(m:Nat)(cs:List D):Prop:=(∀c∈cs,Cat c)/\cs.length<=m
theorem yP:∀{n:Nat},y∈(replicate n [x]).flatten->y=x
 |0,h=>nomatch h
 |n+1,h=>by
  simp_all
theorem yQ:∀n:Nat,(replicate n [x]).flatten.length=n
 |0=>rfl
 |n+1=>by simp
def pC{m:Int}(h:Cat x)(J:m=2):CL 2 (replicate (w % m).toNat [x]).flatten:=⟨λc I=>by rw[yP I];exact h,by
 have p2:=bG w (show(0:Int)<m by lia)
 rw[yQ]
 lia⟩
def FM{e:Ex}(Y:Kd kd)(Z:∀{st:aV}{P:D->aV->Prop},P kd st->W (run (calls tab<|k+2) e loc st) P)(J:Lf st l)(ho:Od st s)(hd:st[d]? =some (.dct sv))(h1:d≠l)(h2:d≠s)(I:Sn sv)(e0:loc[0]? =some (some<|.ref l))(e1:loc[1]? =some (some<|.ref s))(e2:loc[2]? =some (some<|.ref d))(h:∀o st1,kK o->Dr l s st st1->Q o st1):W (run (calls tab<|k+2) (.fn 4 [.v 0,.v 1,.v 2,e]) loc st) Q:=
 ck (ab<|aC e0<|ab<|aC e1<|ab<|aC e2<|ab<|Z<|ag<|jp Y J ho hd h1 h2 I h)
def Ei(Y:Lf st l)(ho:Od st s)(hd:st[d]? =some (.dct sv))(h1:d≠l)(Z:d≠s)(I:Sn sv)(J:Pm l s st P qs)(e0:loc[0]? =some (some<|.ref l))(e1:loc[1]? =some (some<|.ref s))(e2:loc[2]? =some (some<|.ref d))(e3:loc[3]? =some (some<|.ref P))(e4:loc[j]? =some (some<|.int num))(h:∀o st1,Edg o->Dr l s st st1->Q o st1):W (run (calls tab<|k+3) (.fn 7 [.v 0,.v 1,.v 2,.v 3,.v j,.c<|.int skip]) loc st) Q:=
 ck (ab<|aC e0<|ab<|aC e1<|ab<|aC e2<|ab<|aC e3<|ab<|aC e4<|ab<|aN<|ag<|v7 Y ho hd h1 Z I J h)
def s_end{here:Int}(hl:Lf st l)(ho:Od st s)(hd:st[d]? =some (.dct sv))(h1:d≠l)(Y:d≠s)(hs:Sn sv)(hp:Pm l s st P qs)(n0:0<=here)(n1:here<qs.length)(h:∀e st1,EndD e->Dr l s st st1->Q e st1):Wv (calls tab (k+4) rG [.ref l,.ref s,.ref d,.ref P,.int here] st) Q:=by
 walk_at "call0"
 refine a_<|ck<|ab<|aC rfl<|ag<|dJ hl ho λw st1 D1=>?_;refine a_<|bH<|ab<|aC rfl<|ag<|gp (hp.dr D1).at_ ?_;rw[length_map];refine a_<|bH<|ab<|aZ<|aC rfl<|aN<|w_add<|ab<|aZ<|aC rfl<|aN<|w_sub<|ag<|Af ?_;generalize hnx:(if(qs.length:Int) - 1<here+1 then(qs.length:Int) - 1 else here+1)=nx
 have nx0:0<=nx/\nx<qs.length:=by subst hnx;split<;>omega
 have back:∀{st2:aV}{loc:Loc}{R:Fl->aV->Prop},Dr l s st st2->loc[0]? =some (some<|.ref l)->loc[1]? =some (some<|.ref s)->loc[2]? =some (some<|.ref d)->(∀e st1,EndD e->Dr l s st st1->R (.rt e) st1)->W (execs (calls tab<|k+3) [.ret<|.tup [.c<|.str "back",.fn 4 [.v 0,.v 1,.v 2,.tup [.c<|.str "num"]]]] loc st2) R:=λ{st2 loc R} D2 e0 e1 e2 hR=>
  bo (aQ<|ab<|aN<|ab<|FM (k:=k+1) iu (λh=>aQ<|ab<|aN<|ag h) D2.lf D2.od (D2.at hd h1 Y) h1 Y hs e0 e1 e2 λo st3 h3 Z=>ag<|hR _ _ (.back _ h3)<|D2.trans Z)
 have firstK:∀{ss:List S},W (execs (calls tab<|k+3) [.ret<|.ix (.lst [.tup [.c<|.str "back",.fn 4 [.v 0,.v 1,.v 2,.tup [.c<|.str "num"]]],.tup [.c<|.str "raise",.c<|.str "odd"]])<|.bin .mod (.bin .fdiv (.v 5)<|.c<|.int<|8)<|.c<|.int<|2] [some<|.ref l,some<|.ref s,some<|.ref d,some<|.ref P,some<|.int here,some<|.int w,some<|.int qs.length,some<|.int nx,none,none,none,none,none,none,none] st1) (Kn (calls tab<|k+3) ss<|Kr Q):=λ{ss}=>by
  refine bo<|bu<|br<|ab<|aQ<|ab<|aN<|ab<|FM (k:=k+1) iu (λh=>aQ<|ab<|aN<|ag h) D1.lf D1.od (D1.at hd h1 Y) h1 Y hs rfl rfl rfl λo st3 h3 Z=>ag ?_;refine ab<|aQ<|ab<|aN<|ab<|aN<|ag<|ag<|aZ<|aZ<|aC rfl<|aN<|cQ (by decide)<|aN<|w_mod (by decide)<|dh am (by decide) (by simp) λx I=>cI<|bi ?_
  rcases mem_cons.mp I with rfl|I
  .exact h _ _ (.back _ h3)<|(D1.trans Z).more _
  .rcases mem_cons.mp I with rfl|I
   .exact h _ _ (.rais _)<|(D1.trans Z).more _
   .cases I
 refine eE<|w_or<|bn<|aC rfl<|aN<|jO ⟨_,rfl,λhz=>⟨_,rfl,λ_=>firstK,nofun⟩,λhz=>?_⟩;refine bn<|aZ<|aC rfl<|aN<|w_mod (by decide)<|aN<|jO ⟨_,rfl,λ_=>firstK,λ_=>aR<|bv ?_⟩
 have hz:(qs.length:Int)≠1:=of_decide_eq_false hz;have q1:1<(qs.length:Int):=by omega
 refine a_<|aZ<|aN<|aZ<|aZ<|aC rfl<|aN<|cQ (by decide)<|aZ<|aC rfl<|aN<|w_sub<|w_mod (by omega)<|w_add ?_
 generalize hot:1+w / 8 % ((qs.length:Int) - 1)=ot
 have ot0:0<=ot/\ot<qs.length:=by
  have p1:=emod_nonneg (w / 8) (show(qs.length:Int) - 1≠0 by omega)
  have p2:=bG (w / 8) (show(0:Int)<qs.length - 1 by omega)
  omega
 refine a_<|Ei D1.lf D1.od (D1.at hd h1 Y) h1 Y hs (hp.dr D1) rfl rfl rfl rfl rfl λe1 st2 he1 D2=>?_;have Z:=D1.trans D2;refine eE<|bn<|aZ<|aC rfl<|aN<|w_mod (by decide)<|aN<|w_lt ⟨_,rfl,λ_=>?_,λ_=>aR<|bv ?_⟩
 .exact bo<|aQ<|ab<|aN<|ab<|aC rfl<|ag<|cI<|bi<|h _ _ (.jump _ he1) Z
 refine eE<|bn<|aZ<|aC rfl<|aN<|w_mod (by decide)<|aN<|w_lt ⟨_,rfl,λ_=>?_,λ_=>aR<|bv ?_⟩
 .refine a_<|FM (k:=k+1) sV (λh=>aQ<|ab<|aN<|ag h) Z.lf Z.od (Z.at hd h1 Y) h1 Y hs rfl rfl rfl λo st4 ho4 D4=>?_;have D5:=Z.trans D4;refine bo<|aQ<|ab<|aN<|ab<|aC rfl<|ab<|aC rfl<|ab<|Ei D5.lf D5.od (D5.at hd h1 Y) h1 Y hs (hp.dr D5) rfl rfl rfl rfl rfl λe2 st6 he2 D6=>ag<|cI<|bi ?_;exact h _ _ (.branch _ _ _ ho4 he1 he2)<|D5.trans D6
 have riskB:∀{J:aV}{c3:List D}{n:Nat},Dr l s st J->CL 8 c3->J[n]? =some (.lst c3)->(n≠l/\n≠s)->W (execs (calls tab<|k+3) GA [some<|.ref l,some<|.ref s,some<|.ref d,some<|.ref P,some<|.int here,some<|.int w,some<|.int qs.length,some<|.int nx,some<|.int ot,some e1,none,some<|.ref n,none,none,none] J) (Kr Q):=λ{J c3 n} D12 C3 a3 ne2=>by
  refine a_<|bH<|ab<|dH<|aN ⟨_,dj (by decide),?_⟩
  refine nK (L:=bW 2) D12.lf D12.od (by show(bW 2).length<=20;rw[bQ];decide) (af _) (λi st' _=>rfl) (λx I st' D' P hP=>?_) λos st13 hos hol D13=>?_
  .exact cY<|ck<|ab<|aC rfl<|ab<|aC rfl<|ab<|aC rfl<|ab<|aQ<|ab<|aN<|ag<|ag<|jp iu D'.lf D'.od (D'.at (D12.at hd h1 Y) h1 Y) h1 Y hs hP
  refine ag<|bU am ?_;have D14:=D12.trans<|D13.more<|.lst os;have a4:=(D13.more<|.lst os).at a3 ne2.1 ne2.2;generalize st13++[O.lst os]=st14 at D14 a4;refine a_<|Ei D14.lf D14.od (D14.at hd h1 Y) h1 Y hs (hp.dr D14) rfl rfl rfl rfl rfl λe4 st15 he4 D15=>?_;have D16:=D14.trans D15;have a5:=D15.at a4 ne2.1 ne2.2;have C4:(∀c∈c3,Cat c)/\c3.length<=20:=⟨C3.1,ao C3.2 (by decide)⟩
  refine eE<|bn<|aZ<|aC rfl<|aN<|w_mod (by decide)<|aN<|jO ⟨_,rfl,λ_=>?_,λ_=>aR<|bv ?_⟩
  .refine a_<|bu<|br<|ab<|aN<|ab<|aN<|ab<|aN<|ag ?_;refine aZ (aZ<|aC rfl<|aN<|cQ (by decide) ?_)
   refine bu<|br<|ab<|aN<|ab<|aN<|ag<|bH<|ab<|bn<|aZ<|aC rfl<|aN<|w_mod (by decide)<|aN<|w_lt<|ag<|vv ?_
   refine hV am (by split<;>decide) (by split<;>simp) λx I _=>?_
   have hx':∃m:Int,x=.int m/\0<m/\m<=3:=by
    rcases mem_cons.mp I with rfl|I
    .exact⟨3,rfl,by decide,by decide⟩
    .rcases mem_cons.mp I with rfl|I
     .exact⟨2,rfl,by decide,by decide⟩
     .cases I
   obtain⟨m,rfl,m0,m3⟩:=hx';refine w_mod m0<|dh (aF am) m0 (by simpa using m3) λx I=>?_
   have hx':∃t:Str,x=.str t:=by
    rcases mem_cons.mp I with rfl|I
    .exact⟨_,rfl⟩
    .rcases mem_cons.mp I with rfl|I
     .exact⟨_,rfl⟩
     .rcases mem_cons.mp I with rfl|I
      .exact⟨_,rfl⟩
      .cases I
   obtain⟨t,rfl⟩:=hx';refine bo<|aQ<|ab<|aN<|ab<|aN<|ab<|aC rfl<|ab<|ip<|aC rfl<|aN ⟨_,rfl,r8 ?_⟩
   .refine ab<|aC rfl<|ab<|bH<|ab<|aC rfl<|ag<|bU (aF<|aF a5)<|ag<|cI<|bi ?_;exact h _ _ (.risk _ _ _ _ _ Gh hos.cut he4 C4)<|(D16.more _).more _
  .refine bo (aQ<|ab<|aN<|ab<|bu<|br<|ab<|aN<|ab<|aN<|ab<|aN<|ag<|aZ<|aZ<|aC rfl<|aN<|cQ (by decide)<|aN<|w_mod (by decide)<|dh am (by decide) (by simp) λx I=>?_)
   have hx':∃t:Str,x=.str t:=by
    rcases mem_cons.mp I with rfl|I
    .exact⟨_,rfl⟩
    .rcases mem_cons.mp I with rfl|I
     .exact⟨_,rfl⟩
     .rcases mem_cons.mp I with rfl|I
      .exact⟨_,rfl⟩
      .cases I
   obtain⟨t,rfl⟩:=hx';refine ab<|aN<|ab<|aC rfl<|ab<|aC rfl<|ab<|bH<|ab<|aC rfl<|ag<|bU (aF a5)<|ag<|bi ?_;exact h _ _ (.risk _ _ _ _ _ x0 hos he4 C4)<|D16.more _
 have risk:∀{st4:aV},Dr l s st st4->W (execs (calls tab<|k+3) GB [some<|.ref l,some<|.ref s,some<|.ref d,some<|.ref P,some<|.int here,some<|.int w,some<|.int qs.length,some<|.int nx,some<|.int ot,some e1,none,none,none,none,none] st4) (Kr Q):=λ{st4} D4=>by
  have mod2:∀x:Int,0<=x % 2/\x % 2<=1000:=λx=>by lia
  refine a_<|aZ<|br<|ab<|aQ<|ab<|aN<|ab<|Ei D4.lf D4.od (D4.at hd h1 Y) h1 Y hs (hp.dr D4) rfl rfl rfl rfl rfl λe2 st5 he2 D5=>ag<|ag ?_;refine aZ<|aZ<|aC rfl<|aN<|cQ (by decide)<|aN<|w_mod (by decide)<|Ad am ⟨(mod2 _).1,(mod2 _).2,by simp⟩ ?_
  have C1:=pC (x:= .tup [.str "zero",e2]) (w:=w / 64) (m:=2) (.mk _ _ he2) rfl;generalize (replicate (w / 64 % 2).toNat [D.tup [.str "zero",e2]]).flatten=c1 at C1;have D6:=(D4.trans D5).more<|.lst [D.tup [.str "zero",e2]];obtain⟨m1,hm1⟩:∃m1,m1=(st5++[O.lst [D.tup [.str "zero",e2]]]).length:=⟨_,rfl⟩;have ne1:=b0 D6.lf D6.od;have D7:=D6.more<|.lst c1;have a1:(st5++[O.lst [D.tup [.str "zero",e2]]]++[O.lst c1])[m1]? =some (.lst c1):=by rw[hm1];exact am
  rw[<-hm1] at ne1 ⊢;generalize st5++[O.lst [D.tup [.str "zero",e2]]]++[O.lst c1]=st7 at D7 a1;refine a_<|aZ<|aC rfl<|aZ<|br<|ab<|aQ<|ab<|aN<|ab<|Ei D7.lf D7.od (D7.at hd h1 Y) h1 Y hs (hp.dr D7) rfl rfl rfl rfl rfl λe3 st8 he3 D8=>ag<|ag ?_;refine aZ<|aZ<|aC rfl<|aN<|cQ (by decide)<|aN<|w_mod (by decide)<|Ad am ⟨(mod2 _).1,(mod2 _).2,by simp⟩ ?_
  have C2:=pC (x:= .tup [.str "odd",e3]) (w:=w / 128) (m:=2) (.mk _ _ he3) rfl;generalize (replicate (w / 128 % 2).toNat [D.tup [.str "odd",e3]]).flatten=c2 at C2;refine cZ (aF<|aF<|D8.at a1 ne1.1 ne1.2) am (by have:=C1.2;have:=C2.2;lia) ?_
  have C3:CL 4 (c1++c2):=⟨cn C1.1 C2.1,by have:=C1.2;have:=C2.2;rw[aD];lia⟩
  have D9:=(((D7.trans D8).more<|.lst [D.tup [.str "odd",e3]]).more<|.lst c2);generalize st8++[O.lst [D.tup [.str "odd",e3]]]++[O.lst c2]=st9 at D9;have ne2:=b0 D9.lf D9.od;have D10:=D9.more (.lst<|c1++c2);generalize c1++c2=c3 at C3 D10;have a3:(st9++[O.lst c3])[st9.length]? =some (.lst c3):=am;refine iK rfl D10.lf D10.od (λJ D11 _ _=>?_) λJ D11=>riskB (D10.trans D11) ⟨C3.1,ao C3.2 (by decide)⟩ (D11.at a3 ne2.1 ne2.2) ne2
  have a4:=D11.at a3 ne2.1 ne2.2;have D12:=D10.trans D11;refine a_<|aZ<|aC rfl<|ip<|aC rfl<|aN ⟨_,rfl,o8 a4<|cZ (aF a4) am ?_ ?_⟩
  .have:=C3.2;have:=kI (xs:=c3) (lo:=none) (hi:=some 1)
   lia
  have D13:=D12.more<|.lst<|cutD c3 none<|some 1;refine aR<|bv<|riskB (D13.more _) ⟨cn C3.1 λc hc=>C3.1 c<|oQ hc,?_⟩ am<|b0 D13.lf D13.od;have:=C3.2;have:=kI (xs:=c3) (lo:=none) (hi:=some 1);rw[aD]
  lia
 have PP:=hp.dr Z;refine eE<|w_or<|bn<|ip<|bu<|aC rfl<|aC rfl<|PP.ix nx0.1 nx0.2 λq ps hq eq hps=>aN ⟨_,rfl,o8 eq ?_⟩;refine br<|ag<|w_eq (lS (aF am) am) ⟨_,rfl,λhz=>⟨_,rfl,λ_=>?_,nofun⟩,λhz=>?_⟩
 .exact back ((Z.more _).more _) rfl rfl rfl λe st1 he D'=>cI<|bi<|h e st1 he D'
 have D5:=(Z.more<|.lst<|cutD ps none<|some 1).more<|.lst [];have PP5:=hp.dr D5;refine bn<|bu<|bu<|bu<|aC rfl<|aC rfl<|PP5.ix nx0.1 nx0.2 λq2 ps2 hq2 eq2 hps2=>aN ?_;rw[hq] at hq2;cases hq2;rw[aF<|aF eq] at eq2;cases eq2;cases ps with
 |nil=>cases hz
 |cons p ps=>obtain⟨i,kd,rfl,hk⟩:=hps.1 p (.head _);refine eY (aF<|aF eq) km<|aN<|bJ rfl ?_;obtain⟨b2,hb2⟩:=tD (st:=st2++[O.lst<|cutD (.tup [.int i,kd]::ps) none<|some 1]++[O.lst []]) hk iu;refine aQ<|ab<|aN<|ag<|j6 hb2 ⟨_,rfl,λ_=>?_,λ_=>aR<|bv<|risk D5⟩;exact back D5 rfl rfl rfl λe st1 he D'=>cI<|bi<|h e st1 he D'
end
section
variable{k c:Nat}{st:aV}{Q:D->aV->Prop}
def qQ{m:Int}(hx:EndD x)(h:∀b st1,Gr st st1->Q (.bl b) st1):Wv (calls tab (k+1) kf [x,.int m] st) Q:=by
 have J:∀{st1:aV}{n:Nat}{es:List D},Gr st st1->st1[n]? =some (.lst es)->(∀e∈es,Edg e)->es.length<=2000->W (execs (calls tab k) [.ret<|.cmp .NotEq (.compIf (.v 2) (.cmp .LtE (.ix (.v 0)<|.c<|.int<|0)<|.v 2)<|.v 0)<|.lst []] [some x,some<|.int m,some<|.ref n] st1) (Kr Q):=λ{st1 n es} g1 hn he hl=>by
  have hL:dn (.at n) st1=es.length:=by simp only[dn,hn]
  refine bo<|bn<|iM<|aC rfl ⟨_,rfl,?_⟩;refine eI (L:=es) (by rw[hL];exact ao hl (by decide)) (by rw[hL];exact af _) (λi acc I=>Gr st1 I) (.refl _) (λi acc I Y=>by simp only[iT,Y.at hn]) (λi e acc I h5 Y=>?_) λacc I Y=>?_
  .cases he e (ah h5) with
   |mk j xs hxs=>
    refine aH<|bn<|bu<|aC rfl<|aN<|bJ rfl<|aC rfl<|AK ?_;refine aH ?_;cases hz:decide (j<=m) with
    |true=>exact show W ((bg (run (calls tab k) (.v 0) [some<|.tup [.int j,.tup xs],some x,some<|.int m,some<|.ref n]) λy=>ret<|some y) I) (λo st3=>Gr st1 st3) from cY<|aC rfl Y
    |false=>exact Y
  .exact br<|ag<|j6 (lS (aF am) am)<|bi<|h _ _<|g1.trans<|(Y.more _).more _
 walk_at "call0"
 refine a_<|br<|ag ?_;have g0:=Gr.one st<|.lst [];cases hx with
 |jump e he=>
  refine lG rfl<|a_<|br<|ab<|bu<|aC rfl<|aN<|bJ rfl<|ag<|aR<|bv<|iZ rfl rfl<|iZ rfl rfl ?_;exact J (g0.more _) am (bh he bP) (by simp)
 |branch t y n ht Z hn=>
  refine iZ rfl rfl<|lG rfl<|a_<|br<|ab<|bu<|aC rfl<|aN<|bJ rfl<|ab<|bu<|aC rfl<|aN<|bJ rfl<|ag<|aR<|bv<|iZ rfl rfl ?_;exact J (g0.more _) am (all2 Z hn) (by simp)
 |back o hh=>
  refine iZ rfl rfl<|iZ rfl rfl<|iZ rfl rfl ?_;exact J g0 am bP (by simp)
 |rais t=>
  refine iZ rfl rfl<|iZ rfl rfl<|iZ rfl rfl ?_;exact J g0 am bP (by simp)
 |risk op ex xs e cs he hx hd hc=>
  refine iZ rfl rfl<|iZ rfl rfl<|lG rfl<|a_<|aZ<|br<|ab<|bu<|aC rfl<|aN<|bJ rfl<|ag<|fv<|bu<|aC rfl<|aN<|bJ rfl ⟨_,rfl,?_⟩;refine kQ (F:=jm) (ao hc.2 (by decide)) (λy Z I Y=>?_) λI Y=>?_
  .cases hc.1 y Z with
   |mk t e' h'=>exact kq<|aC rfl ⟨rfl,.refl _⟩
  .refine cZ (aF<|Y.at am) am (by rw[length_map];have:=hc.2;simp only[length_cons,length_nil];lia) (aR<|bv<|J ((g0.more _).trans<|(Y.more _).more _) am ?_ ?_)
   .refine cn (bh hd bP) λy Z=>?_;obtain⟨z,hz,rfl⟩:=mem_map.mp Z;cases hc.1 z hz with
    |mk t e' h'=>exact h'
   .have:=hc.2;simp only[length_append,length_map,length_cons,length_nil]
    lia
end
theorem Lf.set(h:Lf st l)(I:n≠l):Lf (st.set n o) l:=by obtain⟨ns,e⟩:=h;exact⟨ns,sn e I⟩
theorem Od.set(h:Od st l)(I:n≠l):Od (st.set n o) l:=by obtain⟨c,a,e⟩:=h;exact⟨c,a,sn e I⟩
theorem Sp.set(h:Sp st l)(I:n≠l):Sp (st.set n o) l:=by obtain⟨c,a,e,q⟩:=h;exact⟨c,a,sn e I,q⟩
def KA.put(h:xX kv)(e:ky kv=rg kv.length):ky (bw kv (.inl (kv.length:Int)) v)=rg (bw kv (.inl (kv.length:Int)) v).length/\(bw kv (.inl (kv.length:Int)) v).length=kv.length+1:=by
 rcases ow (k:=(kv.length:Int)) h with⟨hi,_⟩|⟨_,e1,e2⟩
 .rw[e,lF] at hi
  lia
 .exact⟨by rw[e1,e2,e,nZ],e2⟩
theorem si{k:Key}{v:D}:∀{kv:List (Key×D)},d_ (bw kv k v) k=some v
 |[]=>if_pos rfl
 |p::r=>by
  have h:=si (k:=k) (v:=v) (kv:=r);by_cases hp:p.1=k
  .unfold bw;rw[if_pos (by simp[hp]),map_cons,if_pos hp]
   exact if_pos hp
  .have e:bw (p::r) k v=p::bw r k v:=by
    unfold bw;rw[any_cons,decide_eq_false hp,Bool.false_or];split
    .rw[map_cons,if_neg hp]
    .rfl
   rw[e];exact(if_neg hp).trans h
structure Ph(l s c P:Nat)(st:aV)(qs:List Nat)(kv:List (Key×D)):Prop where
 lf:Lf st l
 od:Od st s
 kd:st[c]? =some (.dct kv)
 ok:Kk st s kv
 pm:Pm l s st P qs
 nc:c≠l/\c≠s
 nd:P∉qs
theorem Ph.dr{P:Nat}(h:Ph l s c P st qs kv)(I:Dr l s st st'):Ph l s c P st' qs kv:=⟨I.lf,I.od,I.at h.kd h.nc.1 h.nc.2,h.ok.sp I.sp,h.pm.dr I,h.nc,h.nd⟩
def Ph.gr{P:Nat}(h:Ph l s c P st qs kv)(g:Gr st st'):Ph l s c P st' qs kv:=h.dr<|.of h.lf h.od g
def fD{a b:Nat}(h:st[a]? =some (.lst xs))(k:st[b]? =some (.dct kvs)):a≠b:=λe=>by
 simp_all
def Ph.app{P q:Nat}{ps:List D}(h:Ph l s c P st qs kv)(hq:q∈qs)(e:st[q]? =some (.lst ps))(hp:Pr (ps++[x])):Ph l s c P (st.set q<|.lst<|ps++[x]) qs kv:=by
 have J:=h.pm.nq q hq;have hlt:=(au e).1;have nP:q≠P:=λz=>h.nd<|z▸hq;refine⟨h.lf.set J.1,h.od.set J.2,sn h.kd<|fD e h.kd,h.ok.sp λz=>z.set J.2,⟨sn h.pm.at_ nP,λq' Y=>?_,h.pm.nP,h.pm.nq,h.pm.few⟩,h.nc,h.nd⟩
 .by_cases hz:q=q'
  .subst hz;exact⟨_,cA hlt,hp⟩
  .obtain⟨I,e',Z⟩:=h.pm.each q' Y;exact⟨I,sn e' hz,Z⟩
def Ph.kind{P:Nat}(h:Ph l s c P st qs kv)(J:Kd x):Ph l s c P (st.set c<|.dct<|bw kv (.inl (kv.length:Int)) x) qs (bw kv (.inl (kv.length:Int)) x):=by have I:=(au h.kd).1;refine⟨h.lf.set h.nc.1,h.od.set h.nc.2,cA I,(h.ok.put J).sp λz=>z.set h.nc.2,⟨sn h.pm.at_<|Ne.symm<|fD h.pm.at_ h.kd,λq Y=>?_,h.pm.nP,h.pm.nq,h.pm.few⟩,h.nc,h.nd⟩;obtain⟨ps,e,Z⟩:=h.pm.each q Y;exact⟨ps,sn e<|Ne.symm<|fD e h.kd,Z⟩
def Ph.block{P:Nat}(h:Ph l s c P st qs kv)(hf:qs.length<10):Ph l s c P ((st++[O.lst []]).set P<|O.lst<|(qs++[st.length]).map D.ref) (qs++[st.length]) kv:=by
 have h':=h.gr<|.one st<|.lst [];have Y:P<st.length:=(au h.pm.at_).1;have J:P<(st++[O.lst []]).length:=by rw[aD];lia
 have nn:=b0 h.lf h.od;refine⟨h'.lf.set h.pm.nP.1,h'.od.set h.pm.nP.2,sn h'.kd<|fD h'.pm.at_ h'.kd,h'.ok.sp λz=>z.set h.pm.nP.2,⟨cA J,λq I=>?_,h.pm.nP,λq I=>?_,by rw[aD];simp;lia⟩,h.nc,λI=>?_⟩
 .rcases mem_append.mp I with I|I
  .obtain⟨ps,e,Z⟩:=h'.pm.each q I;exact⟨ps,sn e λz=>h.nd<|z▸I,Z⟩
  .have:q=st.length:=by simpa using I
   subst this;exact⟨[],sn am<|al Y,bP,zero_le _⟩
 .rcases mem_append.mp I with I|I
  .exact h.pm.nq q I
  simp_all
 .rcases mem_append.mp I with I|I
  .exact h.nd I
  .have:P=st.length:=by simpa using I
   lia
def Pr.more{ps:List D}{i:Int}(h:Pr ps)(I:ps.length<10)(J:Kd kd):Pr (ps++[.tup [.int i,kd]]):=⟨cn h.1<|bh ⟨i,kd,rfl,J⟩ bP,by rw[aD];exact I⟩
def BU(h:∀x∈xs,P x)(I:x∈xs):P x:=h x I
section
variable{k l s c P q0:Nat}{st:aV}
def Bc{n:Int}{Q:Fl->aV->Prop}(hp:Ph l s c P st [q0] [])(h0:st[q0]? =some (.lst []))(hn:0<=n/\n<=2)
  (h:∀x5 kv' st1,Ph l s c P st1 [q0] kv'->kv'.length<=2->(∃ps,st1[q0]? =some (.lst ps)/\ps.length<=2/\Pr ps)->W (execs (calls tab<|k+1) ss [some<|.ref l,some<|.ref s,x2,some<|.ref c,some<|.ref P,x5,none,none,none,none,none,none,none,none,none,none] st1) Q):
  W (fG (λx J=>execs (calls tab<|k+1) [.setix (.v 3) (.v 5)<|.ix (.lst [.tup [.c<|.str "num"],.tup [.c<|.str "num"],.tup [.c<|.str "truth"]])<|.bin .mod (.fn 2 [.v 0])<|.c<|.int<|3,.app (.ix (.v 4)<|.c<|.int<|0)<|.tup [.v 5,.ix (.v 3)<|.v 5]]<|J.set 5<|some x) (.its<|bW n.toNat) [some<|.ref l,some<|.ref s,x2,some<|.ref c,some<|.ref P,none,none,none,none,none,none,none,none,none,none,none] st) (Kn (calls tab<|k+1) ss Q):=by
 refine di (L:=bW n.toNat) (af _) (λi loc st'=>∃kv ps,Ph l s c P st' [q0] kv/\(ky kv=rg kv.length/\kv.length=i)/\st'[q0]? =some (.lst ps)/\ps.length=i/\Pr ps/\∃x5,loc=[some<|.ref l,some<|.ref s,x2,some<|.ref c,some<|.ref P,x5,none,none,none,none,none,none,none,none,none,none]) ⟨[],[],hp,⟨rfl,rfl⟩,h0,rfl,⟨bP,zero_le _⟩,_,rfl⟩ (λ_ _ _ _=>rfl) (λi z loc st' hz hI=>?_) λloc st' hI=>?_
 .obtain⟨kv,ps,H,⟨ka,e1⟩,e2,e3,I,x5,rfl⟩:=hI
  have hi:i<n.toNat:=by have:=(au hz).1;rwa [bQ] at this
  have hzi:z=.int (i:Int):=by
   have:(bW n.toNat)[i]? =some (.int (i:Int)):=by simp[bW,hi]
   rw[this] at hz;exact(ak hz).symm
  subst hzi;refine dB<|bu<|br<|ab<|aQ<|ab<|aN<|ag<|ab<|aQ<|ab<|aN<|ag<|ab<|aQ<|ab<|aN<|ag<|ag ?_;have H1:=H.gr<|.one st'<|.lst [kN,kN,kT];have nn:=b0 H.lf H.od;refine aZ<|ck<|ab<|aC rfl<|ag<|dJ H1.lf H1.od λw st2 D2=>aN<|w_mod (by decide)<|dh (D2.at am nn.1 nn.2) (by decide) (by simp) λkd hkd=>?_
  have hk:Kd kd:=(bh iu (bh iu<|bh sV bP):∀x∈[kN,kN,kT],Kd x) kd hkd;have Z:=H1.dr D2;refine aC rfl<|aC rfl<|cq Z.kd rfl (by lia) ?_
  rw[<-e1];have H3:=Z.kind hk;have ne:=H.pm.nq q0<|.head _;have e5:(st2.set c<|.dct<|bw kv (.inl (kv.length:Int)) kd)[q0]? =some (.lst ps):=sn (D2.at (aF e2) ne.1 ne.2)<|Ne.symm<|fD (D2.at (aF e2) ne.1 ne.2) Z.kd;refine ij<|bu<|aC rfl<|aN<|eY H3.pm.at_ km<|cW e5 ?_;refine aQ<|ab<|aC rfl<|ab<|bu<|aC rfl<|aC rfl<|AM H3.kd si<|ag ?_;have Y:=Pr.more (i:=(kv.length:Int)) I (by lia) hk
  refine cM e5 (by lia)<|aR<|dE ⟨_,ps++[.tup [.int (kv.length:Int),kd]],H3.app (.head _) e5 Y,⟨(KA.put Z.ok.ri.i ka).1,by rw[(KA.put Z.ok.ri.i ka).2]⟩,cA (au e5).1,by simp[e3,e1],Y,_,rfl⟩
 .obtain⟨kv,ps,H,⟨ka,e1⟩,e2,e3,I,x5,rfl⟩:=hI;rw[bQ] at e1 e3;exact bv<|h x5 kv st' H (by lia) ⟨ps,e2,by lia,I⟩
end
def kJ(h:xs[n]? =some x):tX xs (n:Int)=some x:=by
 have I:=(au h).1;obtain⟨e,h1,J⟩:=rV (xs:=xs) (i:=(n:Int)) (by lia) (by lia)
 simp_all
section
variable{k l s c P:Nat}{st:aV}{qs:List Nat}{kv:List (Key×D)}
def Bb{n:Int}{q:Nat}{Q:Fl->aV->Prop}(hp:Ph l s c P st qs kv)(hq:qs[m]? =some q)(h0:st[q]? =some (.lst []))(hn:0<=n/\n<=2)(hkl:kv.length<=500)
  (h:∀x5 x8 x9 kv' st1,Ph l s c P st1 qs kv'->kv'.length<=kv.length+2->Q (.nx [some<|.ref l,some<|.ref s,x2,some<|.ref c,some<|.ref P,x5,x6,some<|.int (m:Int),x8,x9,none,none,none,none,none,none]) st1):
  W (fG (λx J=>execs (calls tab<|k+1) [.set 8<|.bin .mod (.fn 2 [.v 0])<|.c<|.int<|8,.set 9<|.ix (.lst [.tup [.c<|.str "num"],.tup [.c<|.str "truth"],.tup [.c<|.str "row",.c<|.int<|2]])<|.ix (.lst [.c<|.int<|0,.c<|.int<|1,.c<|.int<|0,.c<|.int<|0,.c<|.int<|1,.c<|.int<|0,.c<|.int<|0,.c<|.int<|2])<|.v 8,.app (.ix (.v 4)<|.v 7)<|.tup [.bt .len [.v 3],.v 9],.setix (.v 3) (.bt .len [.v 3])<|.v 9]<|J.set 5<|some x) (.its<|bW n.toNat) [some<|.ref l,some<|.ref s,x2,some<|.ref c,some<|.ref P,x5,x6,some<|.int (m:Int),x8,x9,none,none,none,none,none,none] st) Q:=by
 have Y:=ah hq;refine di (L:=bW n.toNat) (af _) (λi loc st'=>∃kv' ps,Ph l s c P st' qs kv'/\kv'.length<=kv.length+i/\st'[q]? =some (.lst ps)/\ps.length=i/\Pr ps/\∃x5 x8 x9,loc=[some<|.ref l,some<|.ref s,x2,some<|.ref c,some<|.ref P,x5,x6,some<|.int (m:Int),x8,x9,none,none,none,none,none,none]) ⟨kv,[],hp,af _,h0,rfl,⟨bP,zero_le _⟩,_,_,_,rfl⟩ (λ_ _ _ _=>rfl) (λi z loc st' hz hI=>?_) λloc st' hI=>?_
 .obtain⟨kv',ps,H,e1,e2,e3,Z,x5,x8,x9,rfl⟩:=hI
  have hi:i<n.toNat:=by have:=(au hz).1;rwa [bQ] at this
  refine a_<|aZ<|ck<|ab<|aC rfl<|ag<|dJ H.lf H.od λw I D2=>aN<|w_mod (by decide) ?_
  have H2:=H.dr D2;have ne:=H.pm.nq q Y;have e4:=D2.at e2 ne.1 ne.2;refine a_<|bu<|br<|ab<|aQ<|ab<|aN<|ag<|ab<|aQ<|ab<|aN<|ag<|ab<|aQ<|ab<|aN<|ab<|aN<|ag<|ag ?_;refine bu<|br<|ab<|aN<|ab<|aN<|ab<|aN<|ab<|aN<|ab<|aN<|ab<|aN<|ab<|aN<|ab<|aN<|ag ?_;refine aC rfl<|dh am (by decide) (by simp) λx hx=>?_
  have hx':∃j:Int,x=.int j/\0<=j/\j<=2:=by
   refine BU (P:=λx=>∃j:Int,x=.int j/\0<=j/\j<=2) ?_ hx;exact bh ⟨_,rfl,by decide⟩<|bh ⟨_,rfl,by decide⟩<|bh ⟨_,rfl,by decide⟩<|bh ⟨_,rfl,by decide⟩<|bh ⟨_,rfl,by decide⟩<|bh ⟨_,rfl,by decide⟩<|bh ⟨_,rfl,by decide⟩<|bh ⟨_,rfl,by decide⟩ bP
  obtain⟨j,rfl,j0,j2⟩:=hx';refine hV (aF am) j0 (by simp only[length_cons,length_nil];lia) λkd hkd _=>?_
  have hk:Kd kd:=(bh iu (bh sV<|bh x4 bP):∀x∈[kN,kT,kR],Kd x) kd hkd;have H3:=(H2.gr<|.one _ _).gr<|.one (I++[O.lst [kN,kT,kR]])<|.lst [.int 0,.int 1,.int 0,.int 0,.int 1,.int 0,.int 0,.int 2];have e5:=aF (t:=[O.lst [.int 0,.int 1,.int 0,.int 0,.int 1,.int 0,.int 0,.int 2]])<|aF (t:=[O.lst [kN,kT,kR]]) e4;generalize I++[O.lst [kN,kT,kR]]++[O.lst [.int 0,.int 1,.int 0,.int 0,.int 1,.int 0,.int 0,.int 2]]=st5 at H3 e5;refine ij<|bu<|aC rfl<|aC rfl<|eY H3.pm.at_ (kJ (by rw[az,hq];rfl))<|cW e5 ?_
  refine aQ<|ab<|bH<|ab<|aC rfl<|ag<|qy H3.kd<|ab<|aC rfl<|ag ?_;have hp2:=Pr.more (i:=(kv'.length:Int)) Z (by lia) hk
  refine cM e5 (by lia) ?_
  have H4:=H3.app Y e5 hp2;have e6:(st5.set q<|.lst<|ps++[.tup [.int (kv'.length:Int),kd]])[q]? =_:=cA (au e5).1;refine dB<|aC rfl<|aC rfl<|bH<|ab<|aC rfl<|ag<|qy H4.kd ?_;refine cq H4.kd rfl (by lia) ?_
  refine aR<|dE ⟨_,_,H4.kind hk,ao kx (by lia),sn e6<|Ne.symm<|fD e6 H4.kd,by simp[e3],hp2,_,_,_,rfl⟩
 .obtain⟨kv',ps,H,e1,e2,e3,Z,x5,x8,x9,rfl⟩:=hI;rw[bQ] at e1;exact h x5 x8 x9 kv' st' H (by lia)
def Ba{many:Int}{q0:Nat}{Q:Fl->aV->Prop}(hp:Ph l s c P st [q0] kv)(hk:kv.length<=2)(hm:1<=many/\many<=5)
  (h:∀x5 x7 x8 x9 qs kv' st1,Ph l s c P st1 qs kv'->qs.length=many.toNat->kv'.length<=10->W (execs (calls tab<|k+1) ss [some<|.ref l,some<|.ref s,some<|.int many,some<|.ref c,some<|.ref P,x5,x6,x7,x8,x9,none,none,none,none,none,none] st1) Q):
  W (execs (calls tab<|k+1) (.for2 7 (.c<|.int<|1) (.v 2) [.app (.v 4)<|.lst [],.for_ 5 true (.bin .mod (.fn 2 [.v 0])<|.c<|.int<|3) [.set 8<|.bin .mod (.fn 2 [.v 0])<|.c<|.int<|8,.set 9<|.ix (.lst [.tup [.c<|.str "num"],.tup [.c<|.str "truth"],.tup [.c<|.str "row",.c<|.int<|2]])<|.ix (.lst [.c<|.int<|0,.c<|.int<|1,.c<|.int<|0,.c<|.int<|0,.c<|.int<|1,.c<|.int<|0,.c<|.int<|0,.c<|.int<|2])<|.v 8,.app (.ix (.v 4)<|.v 7)<|.tup [.bt .len [.v 3],.v 9],.setix (.v 3) (.bt .len [.v 3])<|.v 9]]::ss) [some<|.ref l,some<|.ref s,some<|.int many,some<|.ref c,some<|.ref P,x5,x6,none,none,none,none,none,none,none,none,none] st) Q:=by
 have J:iN (.int 1) (.int many)=some (.its<|dL 1 (many - 1).toNat):=by
  simp only[iN];rw[if_pos (by lia)]
 have I:(dL 1 (many - 1).toNat).length=(many - 1).toNat:=by simp[dL]
 refine se<|aN<|aC rfl ⟨_,J,?_⟩;refine di (L:=dL 1 (many - 1).toNat) (af _) (λi loc st'=>∃qs kv',Ph l s c P st' qs kv'/\qs.length=1+i/\kv'.length<=2+2*i/\∃x5 x7 x8 x9,loc=[some<|.ref l,some<|.ref s,some<|.int many,some<|.ref c,some<|.ref P,x5,x6,x7,x8,x9,none,none,none,none,none,none]) ⟨[q0],kv,hp,rfl,hk,_,_,_,_,rfl⟩ (λ_ _ _ _=>rfl) (λi z loc st' Z hI=>?_) λloc st' hI=>?_
 .obtain⟨qs,kv',H,e1,e2,x5,x7,x8,x9,rfl⟩:=hI
  have hi:i<(many - 1).toNat:=by have:=(au Z).1;rwa [I] at this
  have Y:z=.int ((qs.length:Nat):Int):=by
   have:(dL 1 (many - 1).toNat)[i]? =some (.int<|1+(i:Int)):=by unfold dL;rw[az,List.getElem?_range hi];rfl
   rw[this] at Z;have:=(ak Z).symm;rw[this,e1];congr 1
  subst Y;refine ij<|aC rfl<|cW H.pm.at_<|br<|ag<|cM (aF H.pm.at_) (by rw[length_map];lia) ?_
  have H1:=H.block (by lia)
  have e0:((st'++[O.lst []]).set P<|O.lst<|(qs++[st'.length]).map D.ref)[st'.length]? =some (.lst []):=sn am<|al (au H.pm.at_).1;rw[show qs.map D.ref++[D.ref st'.length]=(qs++[st'.length]).map D.ref by simp]
  refine ir<|aZ<|ck<|ab<|aC rfl<|ag<|dJ H1.lf H1.od λw st2 D2=>aN<|w_mod (by decide) ⟨_,dj (by lia),?_⟩
  have H2:=H1.dr D2;have nn:=H1.pm.nq st'.length (by simp)
  refine Bb (m:=qs.length) H2 (q:=st'.length) (by simp) (D2.at e0 nn.1 nn.2) (by lia) (by lia) λx5 x8 x9 kv2 st3 H3 e3=>bv<|aR<|dE ⟨_,kv2,H3,by simp;lia,by lia,_,_,_,_,rfl⟩
 .obtain⟨qs,kv',H,e1,e2,x5,x7,x8,x9,rfl⟩:=hI;rw[I] at e1 e2;exact bv<|h x5 x7 x8 x9 qs kv' st' H (by lia) (by lia)
end
def G0(x:D):Prop:=∃ps rows e,x=.tup [.tup ps,.tup rows,e]/\BlkD ps rows e
structure Bk(l s c P B E:Nat)(st:aV)(qs:List Nat)(kv:List (Key×D))(bs:List D)(ev:List (Key×D)):Prop where
 ph:Ph l s c P st qs kv
 b:st[B]? =some (.lst bs)
 bd:∀x∈bs,G0 x
 e:st[E]? =some (.dct ev)
 ed:va ev
 lo:(l<B/\s<B/\c<B/\P<B)/\∀q∈qs,q<B
 be:B<E
def Bk.ex{P B E:Nat}{bs:List D}{kv' ev:List (Key×D)}{S:List Nat}(h:Bk l s c P B E st qs kv bs ev)(x:xY S st st1)(hl:Lf st1 l)(ho:Od st1 s)(hk:st1[c]? =some (.dct kv'))(hK:Kk st1 s kv')(hS:∀i∈S,i=l\/i=s\/i=c\/(B<i/\i≠E)):Bk l s c P B E st1 qs kv' bs ev:=by
 obtain⟨⟨l1,l2,l3,l4⟩,l5⟩:=h.lo;have be:=h.be;have I:=h.ph.pm.nP;have Z:P≠c:=fD h.ph.pm.at_ h.ph.kd
 have out:∀i,i≠l->i≠s->i≠c->(i<=B\/i=E)->i∉S:=λi h1 h2 h3 h4 hi=>by
  rcases hS i hi with e|e|e|e
  .exact h1 e
  .exact h2 e
  .exact h3 e
  .lia
 refine⟨⟨hl,ho,hk,hK,⟨x.at h.ph.pm.at_<|out P I.1 I.2 Z (by lia),λq J=>?_,I,h.ph.pm.nq,h.ph.pm.few⟩,h.ph.nc,h.ph.nd⟩,x.at h.b<|out B (by lia) (by lia) (by lia) (by lia),h.bd,x.at h.e<|out E (by lia) (by lia) (by lia)<|.inr rfl,h.ed,h.lo,h.be⟩
 obtain⟨ps,e,hp⟩:=h.ph.pm.each q J;have Y:=h.ph.pm.nq q J;have:=l5 q J;exact⟨ps,x.at e<|out q Y.1 Y.2 (fD e h.ph.kd) (by lia),hp⟩
section
variable{l s c P B E:Nat}{st st1:aV}{qs:List Nat}{bs:List D}{kv ev:List (Key×D)}
def Bk.dr(h:Bk l s c P B E st qs kv bs ev)(I:Dr l s st st1):Bk l s c P B E st1 qs kv bs ev:=
 h.ex (S:=[l,s]) (I.ex (by simp) (by simp)) I.lf I.od (I.at h.ph.kd h.ph.nc.1 h.ph.nc.2) (h.ph.ok.sp I.sp) λi hi=>by
  rcases mem_cons.mp hi with e|hi
  .exact .inl e
  .exact .inr<|.inl (by simpa using hi)
def Bk.gr(h:Bk l s c P B E st qs kv bs ev)(g:Gr st st1):Bk l s c P B E st1 qs kv bs ev:=h.dr<|.of h.ph.lf h.ph.od g
theorem Bk.set(h:Bk l s c P B E st qs kv bs ev)(hn:B<n/\n≠E):Bk l s c P B E (st.set n o) qs kv bs ev:=by
 obtain⟨⟨l1,l2,Z,Y⟩,J⟩:=h.lo;have I:∀i,i<=B->n≠i:=λi hi=>by lia
 refine h.ex (S:=[n]) (.set<|.head _) (h.ph.lf.set<|I l (by lia)) (h.ph.od.set<|I s (by lia)) (sn h.ph.kd<|I c (by lia)) (h.ph.ok.sp λz=>z.set<|I s (by omega)) λi hi=>by
  simp_all
def Bk.lt(h:Bk l s c P B E st qs kv bs ev):E<st.length:=(au h.e).1
end
section
variable{k l s c P B E d R:Nat}{st:aV}{qs:List Nat}{bs:List D}{kv ev sv:List (Key×D)}{Q:Fl->aV->Prop}
def yK{q:Nat}{ps:List D}(H:Bk l s c P B E st qs kv bs ev)(hd:st[d]? =some (.dct sv))(hE:E<d)(hq:st[q]? =some (.lst ps))(J:Pr ps)(hs:va sv)(hl:sv.length<=100)
  (h:∀x9 x13 I st1,Bk l s c P B E st1 qs kv bs ev->st1[d]? =some (.dct I)->st1[q]? =some (.lst ps)->va I->I.length<=sv.length+10->Q (.nx [some<|.ref l,some<|.ref s,x2,some<|.ref c,some<|.ref P,x5,x6,x7,x8,x9,some<|.ref B,some<|.ref E,some<|.ref d,x13,x14,x15]) st1):
  W (fG (λx Y=>bg (items? 2 x) λds=>execs (calls tab k) [.setix (.v 12) (.v 13)<|.v 9]<|j7 [13,9] ds Y) (.at q) [some<|.ref l,some<|.ref s,x2,some<|.ref c,some<|.ref P,x5,x6,x7,x8,x9,some<|.ref B,some<|.ref E,some<|.ref d,x13,x14,x15] st) Q:=by
 have hL:dn (.at q) st=ps.length:=by simp only[dn,hq]
 refine di (L:=ps) (by rw[hL];exact af _) (λi loc st'=>∃I,Bk l s c P B E st' qs kv bs ev/\st'[d]? =some (.dct I)/\st'[q]? =some (.lst ps)/\va I/\I.length<=sv.length+i/\∃x9 x13,loc=[some<|.ref l,some<|.ref s,x2,some<|.ref c,some<|.ref P,x5,x6,x7,x8,x9,some<|.ref B,some<|.ref E,some<|.ref d,x13,x14,x15]) ⟨sv,H,hd,hq,hs,af _,_,_,rfl⟩ (λi loc st' Z=>by obtain⟨_,_,_,e,_⟩:=Z;simp only[iT,e]) (λi z loc st' hz Z=>?_) λloc st' Z=>?_
 .obtain⟨I,H',e1,e2,h3,h4,x9,x13,rfl⟩:=Z;obtain⟨j,kd,rfl,hk⟩:=J.1 z<|ah hz;have hi:=(au hz).1;have:=J.2;refine hW rfl (dB<|aC rfl<|aC rfl<|aC rfl<|cq e1 rfl (by lia)<|aR<|dE ⟨bw I (.inl j) kd,H'.set ⟨lt_trans H'.be hE,by lia⟩,cA (au e1).1,sn e2<|Ne.symm<|fD e2 e1,Sn.put h3 hk,?_,_,_,rfl⟩)
  have:=kx (kvs:=I) (k:= .inl j) (v:=kd)
  lia
 .obtain⟨I,H',e1,e2,h3,h4,x9,x13,rfl⟩:=Z;exact h x9 x13 I st' H' e1 e2 h3 (by have:=J.2;lia)
def qO{n:Int}(H:Bk l s c P B E st qs kv bs ev)(hd:st[d]? =some (.dct sv))(hE:E<d)(hR:st[R]? =some (.lst []))(hdR:d<R)(hs:va sv)(hl:sv.length<=100)(hk:kv.length<=100)(hn:0<=n/\n<=3)
  (h:∀x5 I kv' rows st1,Bk l s c P B E st1 qs kv' bs ev->st1[d]? =some (.dct I)->st1[R]? =some (.lst rows)->va I->I.length<=sv.length+3->kv'.length<=kv.length+3->(∀r∈rows,RowD r)->rows.length<=3->Q (.nx [some<|.ref l,some<|.ref s,x2,some<|.ref c,some<|.ref P,x5,x6,x7,x8,x9,some<|.ref B,some<|.ref E,some<|.ref d,x13,some<|.ref R,x15]) st1):
  W (fG (λx Z=>execs (calls tab<|k+3) [.app (.v 14)<|.fn 6 [.v 0,.v 1,.v 12,.v 3]]<|Z.set 5<|some x) (.its<|bW n.toNat) [some<|.ref l,some<|.ref s,x2,some<|.ref c,some<|.ref P,x5,x6,x7,x8,x9,some<|.ref B,some<|.ref E,some<|.ref d,x13,some<|.ref R,x15] st) Q:=by
 refine di (L:=bW n.toNat) (af _) (λi loc st'=>∃I kv' rows,Bk l s c P B E st' qs kv' bs ev/\st'[d]? =some (.dct I)/\st'[R]? =some (.lst rows)/\va I/\I.length<=sv.length+i/\kv'.length<=kv.length+i/\(∀r∈rows,RowD r)/\rows.length=i/\∃x5,loc=[some<|.ref l,some<|.ref s,x2,some<|.ref c,some<|.ref P,x5,x6,x7,x8,x9,some<|.ref B,some<|.ref E,some<|.ref d,x13,some<|.ref R,x15]) ⟨sv,kv,[],H,hd,hR,hs,af _,af _,bP,rfl,_,rfl⟩ (λ_ _ _ _=>rfl) (λi z loc st' hz hI=>?_) λloc st' hI=>?_
 .obtain⟨I,kv',rows,H',e1,e2,h3,h4,h5,h6,h7,x5,rfl⟩:=hI
  have hi:i<n.toNat:=by have:=(au hz).1;rwa [bQ] at this
  obtain⟨⟨l1,l2,l3,l4⟩,l5⟩:=H'.lo;have be:=H'.be;refine ij<|aC rfl<|cW e2<|ck<|ab<|aC rfl<|ab<|aC rfl<|ab<|aC rfl<|ab<|aC rfl<|ag ?_;refine s_row H'.ph.lf H'.ph.od e1 H'.ph.kd (by lia) (by lia) H'.ph.nc.1 H'.ph.nc.2 (by lia) ⟨h3,by lia⟩ H'.ph.ok (by lia) λrow sv2 kv2 Y hrow hx q1 q2 q3 q4 q5 q6 q7 q8 _=>?_
  have H2:Bk l s c P B E Y qs kv2 bs ev:=H'.ex hx q1 q2 q4 q7 λj J=>by
   rcases mem_cons.mp J with e|J
   .exact .inl e
   .rcases mem_cons.mp J with e|J
    .exact .inr<|.inl e
    .rcases mem_cons.mp J with e|J
     .exact .inr<|.inr<|.inr (by lia)
     .exact .inr<|.inr<|.inl (by simpa using J)
  have e2':Y[R]? =some (.lst rows):=hx.at e2 (by simp only[mem_cons,mem_nil_iff,or_false,not_or];lia)
  refine cM e2' (by lia)<|aR<|dE ⟨sv2,kv2,rows++[row],H2.set ⟨by lia,by lia⟩,sn q3 (by lia),cA (au e2').1,q5,by lia,by lia,cn h6<|bh hrow bP,by simp[h7],_,rfl⟩
 .obtain⟨I,kv',rows,H',e1,e2,h3,h4,h5,h6,h7,x5,rfl⟩:=hI;rw[bQ] at h4 h5 h7;exact h x5 I kv' rows st' H' e1 e2 h3 (by lia) (by lia) h6 (by lia)
end
section
variable{k l s c P B E:Nat}{st:aV}{qs:List Nat}{bs:List D}{kv ev:List (Key×D)}{Q:Fl->aV->Prop}
def A7{x12:Option D}(H:Bk l s c P B E st qs kv bs ev)(hev:ev.length<=20)(h0:i=0->ev.length=0)(hi:i<qs.length)(hk:kv.length<=50)(hb:bs.length<=10)
  (h:∀x5 x9 x12 x13 x14 x15 E' ev' kv' bs' st1,Bk l s c P B E' st1 qs kv' bs' ev'->ev'.length<=20->kv'.length<=kv.length+3->bs'.length=bs.length+1->Q (.nx [some<|.ref l,some<|.ref s,x2,some<|.ref c,some<|.ref P,x5,x6,some<|.int (i:Int),x8,x9,some<|.ref B,some<|.ref E',x12,x13,x14,x15]) st1):
  W (execs (calls tab<|k+4) bT [some<|.ref l,some<|.ref s,x2,some<|.ref c,some<|.ref P,x5,x6,some<|.int (i:Int),x8,x9,some<|.ref B,some<|.ref E,x12,x13,x14,x15] st) Q:=by
 obtain⟨⟨l1,l2,l3,l4⟩,l5⟩:=H.lo;have be:=H.be;have lt:=H.lt;have Z:(0:Int)<=(i:Int)/\(i:Int)<qs.length:=by lia
 refine a_<|bH<|ab<|aC rfl<|ag<|fu H.e ?_;have H1:=H.gr<|.one st<|.dct ev;have d1:(st++[O.dct ev])[st.length]? =some (.dct ev):=am;generalize hd:st.length=d at d1;have hEd:E<d:=by lia
 have ld:d<(st++[O.dct ev]).length:=(au d1).1;generalize st++[O.dct ev]=st1 at H1 d1 ld;refine iL<|bu<|aC rfl<|aC rfl<|H1.ph.pm.ix Z.1 Z.2 λq ps hq eq hps=>⟨_,rfl,?_⟩;refine yK H1 d1 hEd eq hps H1.ed (by lia) λx9 x13 sv Y H2 d2 q2 hsv hsl=>bv ?_
 refine a_<|br<|ag ?_;have H3:=H2.gr<|.one Y<|.lst [];have d3:=aF (t:=[O.lst []]) d2;have q3:=aF (t:=[O.lst []]) q2;have r3:(Y++[O.lst []])[Y.length]? =some (.lst []):=am;have hdR:d<Y.length:=(au d2).1;generalize Y.length=R at r3 hdR;generalize Y++[O.lst []]=st3 at H3 d3 q3 r3;refine ir<|aZ<|ck<|ab<|aC rfl<|ag<|dJ H3.ph.lf H3.ph.od λw st4 D4=>aN<|w_mod (by decide) ⟨_,dj (by lia),?_⟩
 have H4:=H3.dr D4;refine qO (k:=k+1) H4 (D4.at d3 (by lia) (by lia)) hEd (D4.at r3 (by lia) (by lia)) hdR hsv (by lia) (by lia) (by lia) λx5 sv' kv' rows st5 H5 d5 r5 hsv' hsl' hkl' J hrl=>bv ?_
 have rest:∀{E':Nat}{ev':List (Key×D)}{st6:aV},Bk l s c P B E' st6 qs kv' bs ev'->ev'.length<=20->st6[d]? =some (.dct sv')->st6[R]? =some (.lst rows)->(E'=E\/R<E')->W (execs (calls tab<|k+4) bA [some<|.ref l,some<|.ref s,x2,some<|.ref c,some<|.ref P,x5,x6,some<|.int (i:Int),x8,x9,some<|.ref B,some<|.ref E',some<|.ref d,x13,some<|.ref R,x15] st6) Q:=λ{E' ev' st6} H6 hev' d6 r6 hE'=>by
  have be6:=H6.be;refine a_<|ck<|ab<|aC rfl<|ab<|aC rfl<|ab<|aC rfl<|ab<|aC rfl<|ab<|aC rfl<|ag ?_;refine s_end H6.ph.lf H6.ph.od d6 (by lia) (by lia) ⟨hsv',by lia⟩ H6.ph.pm Z.1 Z.2 λx st7 hx D7=>?_
  have H7:=H6.dr D7;have r7:=D7.at r6 (by omega) (by omega)
  have last:∀{st9:aV}{rows':List D},Bk l s c P B E' st9 qs kv' bs ev'->st9[R]? =some (.lst rows')->(∀r∈rows',RowD r)->rows'.length<=4->W (execs (calls tab<|k+4) bB [some<|.ref l,some<|.ref s,x2,some<|.ref c,some<|.ref P,x5,x6,some<|.int (i:Int),x8,x9,some<|.ref B,some<|.ref E',some<|.ref d,x13,some<|.ref R,some x] st9) Q:=λ{st9 rows'} H9 r9 hr' hl'=>by
   refine ij<|aC rfl<|cW H9.b<|aQ<|ab<|bH<|ab<|fv<|bu<|aC rfl<|aC rfl<|H9.ph.pm.ix Z.1 Z.2 λq ps hq eq hps=>⟨_,rfl,?_⟩;refine vq (F:=xq) eq hps (λi kd st' P hk hP=>aC rfl hP) λst10 g10=>ag<|bU am ?_;have I:=H9.gr<|g10.more<|.lst<|ps.map xq;refine ab<|bH<|ab<|aC rfl<|ag<|bU ((g10.more<|.lst<|ps.map xq).at r9)<|ab<|aC rfl<|ag ?_;refine cM I.b (by lia)<|aR<|h _ _ _ _ _ _ E' ev' kv' (bs++[.tup [.tup<|ps.map xq,.tup rows',x]]) _ ?_ hev' (by omega) (by simp)
   have bB:B<(st10++[O.lst<|ps.map xq]).length:=(au I.b).1;have hBE:∀j,j≠B->(B≠j):=λj hj=>Ne.symm hj;refine⟨⟨I.ph.lf.set (by lia),I.ph.od.set (by lia),sn I.ph.kd (by lia),I.ph.ok.sp λz=>z.set (by lia),⟨sn I.ph.pm.at_ (by lia),λq' hq'=>?_,I.ph.pm.nP,I.ph.pm.nq,I.ph.pm.few⟩,I.ph.nc,I.ph.nd⟩,cA bB,cn I.bd<|bh ⟨_,_,_,rfl,⟨⟨λp hp=>?_,by rw[length_map];exact ao hps.2 (by decide)⟩,hr',by lia,hx⟩⟩ bP,sn I.e (by lia),I.ed,I.lo,I.be⟩
   .obtain⟨ps',e',hp'⟩:=I.ph.pm.each q' hq';exact⟨ps',sn e' (by have:=l5 q' hq';lia),hp'⟩
   .obtain⟨y,hy,rfl⟩:=mem_map.mp hp;obtain⟨j,kd,rfl,_⟩:=hps.1 y hy;exact⟨j,rfl⟩
  refine eE<|w_and<|ck<|ab<|aC rfl<|ab<|aC rfl<|ag<|qQ hx λb st8 g8=>⟨_,rfl,λhz=>?_,λhz=>⟨_,rfl,nofun,λ_=>aR<|bv<|last (H7.gr g8) (g8.at r7) J (by omega)⟩⟩
  have H8:=H7.gr g8;refine w_not<|ck<|ab<|aC rfl<|ag<|Ak H8.ph.lf H8.ph.od λb9 st9 D9 _=>⟨_,rfl,_,rfl,λ_=>?_,λ_=>aR<|bv<|last (H8.dr D9) (D9.at (g8.at r7) (by omega) (by omega)) J (by omega)⟩
  have H9:=H8.dr D9;have r9:=D9.at (g8.at r7) (by omega) (by omega)
  refine ij<|aC rfl<|cW r9<|aQ<|ab<|aN<|ab<|aN<|ab<|aN<|ab<|aQ<|ag<|ag<|cM r9 (by lia)<|aR<|bv ?_
  refine last (H9.set ⟨by lia,by rcases hE' with e|e<;>lia⟩) (cA (au r9).1) (cn J<|bh (.mk _ _ _ _ .non x0 ⟨bP,zero_le _⟩) bP) (by simp;omega)
 refine eE<|bn<|aC rfl<|aN<|jO ⟨_,rfl,λhz=>?_,λhz=>aR<|bv<|rest H5 hev d5 r5<|.inl rfl⟩;have hz:(i:Int)=0:=of_decide_eq_true hz;refine a_<|bH<|ab<|aC rfl<|ag<|fu d5<|aR<|bv ?_;have H6:=H5.gr<|.one st5<|.dct sv';have:=H5.lt;refine rest (E':=st5.length) (ev':=sv') ⟨H6.ph,H6.b,H6.bd,am,hsv',H6.lo,by lia⟩ ?_ (aF d5) (aF r5)<|.inr (au r5).1
 have:=h0 (by lia)
 lia
end
def CJ(ks:List D):Prop:=∀x∈ks,Kd x
def AS{as bs:List D}(I:as.length+bs.length<=1000000)(h:Q (.tup<|as++bs) st):W (cj .add (.tup as) (.tup bs) st) Q:=by
 cases as with
 |nil=>trivial
 |cons a as=>exact AR nofun I h
def AJ(I:n<=2)(h:Q (.tup<|replicate n x) st):W (cj .mul (.tup [x]) (.int n) st) Q:=by
 match n,I,h with
 |0,_,h=>exact h
 |1,_,h=>exact h
 |2,_,h=>exact h
structure Ks(kv:List (Key×D)):Prop where
 ri:Ri kv
 sn:va kv
 le:∀i∈ky kv,i<=60
 few:kv.length<=60
def Kk.ks(h:Kk st s kv)(I:kv.length<=45):Ks kv:=⟨h.ri,h.sn,λi hi=>by have:=h.le hi;lia,by lia⟩
def Kk.fifty(h:Kk st s kv)(J:kv.length<=45):Ks (bw kv (.inl 50) kN):=by
 have sn:=Sn.put (i:=50) h.sn iu;have lt:∀i∈ky kv,i<50:=λi hi=>by have:=h.le hi;lia
 rcases ow (k:=50) (v:=kN) h.ri.i with⟨hi,_⟩|⟨_,e1,e2⟩
 .exact absurd (lt 50 hi) (by decide)
 .refine⟨⟨λp I=>(sn p I).1,?_⟩,sn,λi hi=>?_,by lia⟩
  .rw[e1,List.pairwise_append];exact⟨h.ri.r,List.pairwise_singleton ..,λa Z b Y=>by simp_all⟩
  .rw[e1] at hi;rcases mem_append.mp hi with hi|hi
   .have:=lt i hi
    lia
   simp_all
section
variable{k l s:Nat}{st:aV}{Q:D->aV->Prop}
def zf{m:Int}(h:∀x∈xs,∃i:Int,x=.int i/\0<=i/\i<=m)(I:x∈xs):∃i:Int,x=.int i/\0<=i/\i<=m:=h x I
def lh(hl:Lf st l)(ho:Od st s)(h:∀tk kv bs st1,CJ tk->tk.length<=12->Ks kv->nI bs->0<bs.length->Lf st1 l->Od st1 s->Q (.tup [.tup tk,kN,.tup<|kp kv,.tup bs]) st1):Wv (calls tab (k+5) ke [.ref l,.ref s] st) Q:=by
 walk_at "call0"
 refine a_<|aZ<|aN<|aZ<|ck<|ab<|aC rfl<|ag<|dJ hl ho λw0 st1 D1=>aN<|w_mod (by decide)<|w_add ?_
 generalize hmany:1+w0 % 5=many;have hm:1<=many/\many<=5:=by lia
 refine a_<|vB<|a_<|br<|ab<|br<|ag<|ag ?_;have nn:=b0 D1.lf D1.od;have D2:=D1.more<|.dct [];have nn2:=b0 D2.lf D2.od;have D3:=D2.more<|.lst [];have nn3:=b0 D3.lf D3.od;have D4:=D3.more<|.lst [.ref (st1++[O.dct []]).length]
 have H:Ph l s st1.length (st1++[O.dct []]++[O.lst []]).length (st1++[O.dct []]++[O.lst []]++[O.lst [.ref (st1++[O.dct []]).length]]) [(st1++[O.dct []]).length] []:=
  ⟨D4.lf,D4.od,aF<|aF am,⟨(λ_ h=>nomatch h),.inl rfl⟩,⟨am,λq hq=>by
   have:q=(st1++[O.dct []]).length:=by simpa using hq
   subst this;exact⟨[],aF am,bP,zero_le _⟩,nn3,λq hq=>by
   have:q=(st1++[O.dct []]).length:=by simpa using hq
   subst this;exact nn2,by simp⟩,nn,λhq=>by
   have:(st1++[O.dct []]++[O.lst []]).length=(st1++[O.dct []]).length:=by simpa using hq
   simp at this⟩
 have e0:(st1++[O.dct []]++[O.lst []]++[O.lst [.ref (st1++[O.dct []]).length]])[(st1++[O.dct []]).length]? =some (.lst []):=aF am;generalize (st1++[O.dct []]).length=q0 at H e0;generalize (st1++[O.dct []]++[O.lst []]).length=P at H;generalize st1.length=c at H;generalize st1++[O.dct []]++[O.lst []]++[O.lst [.ref q0]]=st4 at H e0;refine ir<|bu<|br<|ab<|aN<|ab<|aN<|ab<|aN<|ab<|aN<|ag ?_;have H5:=H.gr<|.one st4<|.lst [.int 1,.int 1,.int 0,.int 2];have nn5:=b0 H.lf H.od;refine aZ<|ck<|ab<|aC rfl<|ag<|dJ H5.lf H5.od λw st6 D6=>aN<|w_mod (by decide)<|dh (D6.at am nn5.1 nn5.2) (by decide) (by simp) λx hx=>?_
 obtain⟨n,rfl,n0,n2⟩:=zf (m:=2) (bh ⟨_,rfl,by decide⟩<|bh ⟨_,rfl,by decide⟩<|bh ⟨_,rfl,by decide⟩<|bh ⟨_,rfl,by decide⟩ bP) hx
 have nq0:=H.pm.nq q0<|.head _;refine⟨_,dj (by lia),Bc (k:=k+3) (H5.dr D6) (D6.at (aF e0) nq0.1 nq0.2) ⟨n0,n2⟩ λx5 kv st7 H7 hk7 hq7=>?_⟩
 obtain⟨ps,ep,hp2,hps⟩:=hq7;refine a_<|bH<|ab<|fv<|bu<|aC rfl<|aN<|eY H7.pm.at_ km ⟨_,rfl,?_⟩;refine vq (F:=jm) ep hps (λi kd st' P hk hP=>aC rfl hP) λst8 g8=>ag<|bU am ?_
 have htk:CJ (ps.map jm):=λx hx=>by obtain⟨y,hy,rfl⟩:=mem_map.mp hx;obtain⟨i,kd,rfl,hk⟩:=hps.1 y hy;exact hk
 have htl:(ps.map jm).length<=2:=by rw[length_map];exact hp2
 have H8:=H7.gr<|g8.more<|.lst<|ps.map jm;generalize ps.map jm=tk at H8 htk htl
 have fA:∀{st9:aV}{tk:List D},Ph l s c P st9 [q0] kv->CJ tk->tk.length<=12->W (execs (calls tab<|k+4) Gx [some<|.ref l,some<|.ref s,some<|.int many,some<|.ref c,some<|.ref P,x5,some<|.tup tk,none,none,none,none,none,none,none,none,none] st9) (Kr Q):=λ{st9 tk} H9 htk9 htl9=>by
  refine Ba (k:=k+3) H9 hk7 hm λx5 x7 x8 x9 qs kv' Y J hqs hkv'=>?_;refine a_<|br<|ag<|a_<|vB ?_;obtain⟨ns,el⟩:=J.lf;obtain⟨cc,_,es⟩:=J.od
  have BK:Bk l s c P Y.length (Y++[O.lst []]).length (Y++[O.lst []]++[O.dct []]) qs kv' [] []:=
   ⟨J.gr<|(Gr.one _ _).more _,aF am,bP,am,(λ_ h=>nomatch h),⟨⟨(au el).1,(au es).1,(au J.kd).1,(au J.pm.at_).1⟩,λq hq=>by
    obtain⟨ps,e,_⟩:=J.pm.each q hq;exact(au e).1⟩,by simp⟩
  generalize (Y++[O.lst []]).length=E at BK;generalize Y++[O.lst []]++[O.dct []]=st11 at BK;generalize Y.length=B at BK;have hrl:=bQ many.toNat;refine ir<|aC rfl ⟨_,dj (by lia),?_⟩
  refine di (L:=bW many.toNat) (af _) (λi loc st'=>∃E ev kv bs,Bk l s c P B E st' qs kv bs ev/\ev.length<=20/\(i=0->ev.length=0)/\kv.length<=10+3*i/\bs.length=i/\∃x5 x7 x9 x12 x13 x14 x15,loc=[some<|.ref l,some<|.ref s,some<|.int many,some<|.ref c,some<|.ref P,x5,some<|.tup tk,x7,x8,x9,some<|.ref B,some<|.ref E,x12,x13,x14,x15]) ⟨E,[],kv',[],BK,by decide,λ_=>rfl,by omega,rfl,_,_,_,_,_,_,_,rfl⟩ (λ_ _ _ _=>rfl) (λi z loc st' hz hI=>?_) λloc st' hI=>?_
  .obtain⟨E,ev,kv,bs,H',h1,h2,h3,h4,x5,x7,x9,x12,x13,x14,x15,rfl⟩:=hI
   have hi:i<many.toNat:=by have:=(au hz).1;rwa [bQ] at this
   have hzi:z=.int (i:Int):=by
    have:(bW many.toNat)[i]? =some (.int (i:Int)):=by simp[bW,hi]
    rw[this] at hz;exact(ak hz).symm
   subst hzi;exact A7 H' h1 h2 (by lia) (by lia) (by lia) λx5 x9 x12 x13 x14 x15 E' ev' kv2 bs' st2 Z q1 q2 q3=>dE ⟨E',ev',kv2,bs',Z,q1,λz=>by lia,by lia,by lia,_,_,_,_,_,_,_,rfl⟩
  .obtain⟨E,ev,kv,bs,H',h1,h2,h3,h4,x5,x7,x9,x12,x13,x14,x15,rfl⟩:=hI;rw[bQ] at h3 h4
   have fB:∀{I:aV}{kv2:List (Key×D)},I[c]? =some (.dct kv2)->Ks kv2->I[B]? =some (.lst bs)->Lf I l->Od I s->W (execs (calls tab<|k+4) CN [some<|.ref l,some<|.ref s,some<|.int many,some<|.ref c,some<|.ref P,x5,some<|.tup tk,x7,x8,x9,some<|.ref B,some<|.ref E,x12,x13,x14,x15] I) (Kr Q):=λ{I kv2} hc hK hB hl' ho'=>by
    refine bo<|aQ<|ab<|aC rfl<|ab<|aQ<|ab<|aN<|ag<|ab<|bH<|ab<|vp<|aC rfl ⟨_,_,_,rfl,hc,oB hK.ri.i,⟨hK.ri.r,by have:=hK.few;lia⟩,?_⟩
    rw[qv];refine ag<|bU am<|ab<|bH<|ab<|aC rfl<|ag<|bU (aF hB)<|ag<|bi ?_;exact h tk kv2 bs _ htk9 htl9 hK ⟨λb hb=>H'.bd b hb,by lia⟩ (by lia) (hl'.gr<|.one _ _)<|ho'.gr<|.one _ _
   obtain⟨⟨l1,l2,l3,l4⟩,_⟩:=H'.lo;refine bv<|iK rfl H'.ph.lf H'.ph.od (λI D12 _ _=>?_) λI D12=>?_
   .have Z:=H'.dr D12;refine dB<|aQ<|ab<|aN<|ag<|aC rfl<|aN<|cq Z.ph.kd rfl (by lia)<|aR<|bv<|fB (cA (au Z.ph.kd).1) (Z.ph.ok.fifty (by omega)) (sn Z.b (by lia)) (Z.ph.lf.set Z.ph.nc.1)<|Z.ph.od.set Z.ph.nc.2
   .have Z:=H'.dr D12;exact fB Z.ph.kd (Z.ph.ok.ks (by omega)) Z.b Z.ph.lf Z.ph.od
 refine iK rfl H8.lf H8.od (λst9 D9 _ _=>?_) λst9 D9=>fA (H8.dr D9) htk<|ao htl (by decide)
 have H9:=H8.dr D9;refine a_<|bu<|br<|ab<|aZ<|aC rfl<|aQ<|ab<|aQ<|ab<|aN<|ag<|ag<|AS (by simp only[length_cons,length_nil];lia)<|ab<|gm<|aC rfl<|aN ⟨_,rfl,r8 ?_⟩
 refine ab<|aZ<|aQ<|ab<|aQ<|ab<|aN<|ag<|ag<|bH<|ab<|aC rfl<|ag<|iq<|AJ htl<|ag ?_;have nn:=b0 H9.lf H9.od;have J:=H9.gr<|.one st9<|.lst [.tup<|tk++[kN],.tup<|cutD tk (some 1) none,.tup<|replicate tk.length kT];refine aZ<|ck<|ab<|aC rfl<|ag<|dJ J.lf J.od λw st11 D11=>aN<|w_mod (by decide)<|dh (D11.at am nn.1 nn.2) (by decide) (by simp) λx hx=>?_
 have hx':∃t,x=.tup t/\CJ t/\t.length<=12:=(bh (P:=λx=>∃t,x=.tup t/\CJ t/\t.length<=12) ⟨_,rfl,cn htk<|bh iu bP,by simp only[length_append,length_cons,length_nil];lia⟩<|bh ⟨_,rfl,λy hy=>htk y<|oQ hy,ao kI (by omega)⟩<|bh ⟨_,rfl,λy hy=>by rw[List.eq_of_mem_replicate hy];exact sV,by rw[List.length_replicate];omega⟩ bP) x hx
 obtain⟨t,rfl,h1,h2⟩:=hx';exact aR<|bv<|fA (J.dr D11) h1 h2
end
def Mk(st st':aV)(m:Nat):Prop:=∃zs:List Int,st'=st++[.lst<|zs.map .int]/\zs.length<=m
section
variable{k n:Nat}{st:aV}{Q:D->aV->Prop}
def sA{c m:Int}(h:∀r,Q (.int r) st):Wv (calls tab (k+1) oE [.int c,.int m] st) Q:=by
 walk_at "call"
 exact h _
def qA{e:Ex}{zs:List Int}{Q:Fl->aV->Prop}(J:loc[2]? =some (some<|.ref st.length))(Y:zs.length<10000)(I:∀P:D->aV->Prop,(∀r,P (.int r)<|st++[.lst<|zs.map .int])->W (run g e loc<|st++[.lst<|zs.map .int]) P)(h:∀r:Int,W (execs g ss loc<|st++[.lst<|(zs++[r]).map .int]) Q):W (execs g (.app (.v 2) e::ss) loc<|st++[.lst<|zs.map .int]) Q:=
 ij (aC J<|cW am<|I _ λr=>cM am (by rw[length_map];lia) (by rw[bN];have:=h r;rw[map_append] at this;exact this))
def ud{cs:List Int}(hn:st[n]? =some (.lst<|cs.map .int))(hc:cs.length<=63)(h:∀m st',Lf st' m->Gr st st'->Q (.ref m) st'):Wv (calls tab (k+2) lN [.ref n,.int 200] st) Q:=by
 walk_at "call0"
 refine a_<|br<|ag<|ir<|aC rfl ⟨_,rfl,?_⟩;have hL:dn (.at n) (st++[O.lst []])=(cs.map D.int).length:=by simp only[dn,aF hn]
 refine di (L:=cs.map .int) (by rw[hL];exact af _) (λi loc st'=>(∃a b c,loc=[some<|.ref n,some<|.int 200,some<|.ref st.length,a,b,c])/\Mk st st' (40*i)) ⟨⟨_,_,_,rfl⟩,[],rfl,by simp⟩ (λi loc st' J=>by obtain⟨_,zs,rfl,_⟩:=J;simp only[iT,aF hn]) (λi z loc st' I J=>?_) λloc st' J=>?_
 .obtain⟨⟨a,b,c,rfl⟩,hM⟩:=J
  have hi:i<cs.length:=by have:=(au I).1;rwa [length_map] at this
  obtain⟨v,_,rfl⟩:=mem_map.mp<|ah I;refine a_<|aC rfl<|ir<|aN ⟨_,dj (by decide),?_⟩
  refine di (L:=bW 40) (af _) (λj loc st'=>(∃(b:Int)(c:Option D),loc=[some<|.ref n,some<|.int 200,some<|.ref st.length,some<|.int v,some<|.int b,c])/\Mk st st' (40*i+j)) ⟨⟨_,_,rfl⟩,hM⟩ (λ_ _ _ _=>rfl) (λj y loc Y hy hJ=>?_) λloc Y hJ=>?_
  .obtain⟨⟨b2,c2,rfl⟩,zs,rfl,Z⟩:=hJ
   have hj:j<40:=by have:=(au hy).1;rwa [bQ] at this
   have fin:∀r:Int,Mk st (st++[O.lst<|(zs++[r]).map D.int]) (40*i+(j+1)):=λr=>⟨_,rfl,by simp;lia⟩
   refine eE<|bn<|aC rfl<|aZ<|aN<|aN<|w_pow (by decide)<|w_lt ⟨_,rfl,λ_=>?_,λ_=>?_⟩
   .refine qA rfl (by omega) (λP hP=>?_) λr=>?_
    .exact aZ<|ck<|ab<|aC rfl<|ab<|bH<|ab<|aC rfl<|ag<|gp am<|ag<|sA λr=>aN<|w_mod (by decide)<|hP _
    exact aR<|bv<|aR<|dE ⟨⟨_,_,rfl⟩,fin r⟩
   .refine eE (bn<|aC rfl<|aN<|AN ⟨_,rfl,λ_=>?_,λ_=>?_⟩)
    .refine qA rfl (by omega) (λP hP=>?_) λr=>?_
     .exact aZ<|aC rfl<|aN<|w_mod (by decide)<|hP _
     exact a_<|aZ<|aC rfl<|aN<|cQ (by decide)<|aR<|bv<|aR<|bv<|aR<|dE ⟨⟨_,_,rfl⟩,fin r⟩
    .exact aR<|bv<|aR<|bv<|aR<|dE ⟨⟨_,_,rfl⟩,zs,rfl,by lia⟩
  .obtain⟨⟨b2,c2,rfl⟩,hM2⟩:=hJ;rw[bQ] at hM2;exact bv<|aR<|dE ⟨⟨_,_,_,rfl⟩,hM2⟩
 .obtain⟨⟨a,b,c,rfl⟩,zs,rfl,Z⟩:=J;rw[length_map] at Z;refine bv (AD (λm' loc st'=>∃zs:List Int,st'=st++[.lst<|zs.map .int]/\zs.length<=3000/\m'=200 - zs.length/\loc=[some<|.ref n,some<|.int 200,some<|.ref st.length,a,b,c]) (200 - zs.length) (by lia) ⟨zs,rfl,by lia,rfl,rfl⟩ λm' loc Y J=>?_)
  obtain⟨ys,rfl,hy,rfl,rfl⟩:=J;refine bn<|bH<|ab<|aC rfl<|ag<|gp am<|aC rfl<|w_lt ⟨_,rfl,λI=>?_,λI=>?_⟩
  .have I:((ys.map D.int).length:Int)<200:=of_decide_eq_true I;rw[length_map] at I;refine⟨200 - ys.length - 1,by lia,?_⟩
   refine qA rfl (by lia) (λP hP=>?_) λr=>?_
   .exact aZ<|ck<|ab<|bH<|ab<|aC rfl<|ag<|gp am<|ab<|aC rfl<|ag<|sA λr=>aN<|w_mod (by decide)<|hP _
   exact aR<|dE ⟨ys++[r],rfl,by simp;lia,by simp;lia,rfl⟩
  .refine bo<|ip<|aC rfl<|aC rfl ⟨_,rfl,o8 am<|bi<|h _ _ ?_<|(Gr.one _ _).more _⟩;refine⟨(ys.drop<|HT.c_ (ys.map D.int).length 0 none).take<|HT.c_ (ys.map D.int).length (ys.map D.int).length (some 200) - HT.c_ (ys.map D.int).length 0 none,?_⟩;rw[am];unfold cutD;rw[map_take,map_drop]
end
inductive EO:D->List D->List D->Prop where
 |jump (e:D):EO (.tup [.str "jump",e]) [.tup [e,.bl false]] []
 |branch (t y n:D):EO (.tup [.str "branch",t,y,n]) [.tup [y,.bl false],.tup [n,.bl false]] [t]
 |back (o:D):EO (.tup [.str "back",o]) [] [o]
 |rais (s:D):EO (.tup [.str "raise",s]) [] []
 |risk (op ex e:D)(xs cs:List D):EO (.tup [.str "risk",op,ex,.tup xs,e,.tup cs]) (.tup [e,.bl true]::cs.map λc=>.tup [jm c,.bl false]) xs
def EndD.eo(h:EndD x):∃es rs,EO x es rs:=by
 cases h with
 |jump e _=>exact⟨_,_,.jump e⟩
 |branch t y n _ _ _=>exact⟨_,_,.branch t y n⟩
 |back o _=>exact⟨_,_,.back o⟩
 |rais s=>exact⟨_,_,.rais _⟩
 |risk op ex xs e cs _ _ _ _=>exact⟨_,_,.risk _ ex e xs cs⟩
def EX(es:List D):Prop:=(∀x∈es,∃e b,x=.tup [e,.bl b]/\Edg e)/\es.length<=21
def EO.ok{rs:List D}(h:EO x es rs)(k:EndD x):EX es/\qu rs:=by
 have J:qu []:=⟨bP,zero_le _⟩;cases k with
 |jump e he=>cases h;exact⟨⟨bh ⟨_,_,rfl,he⟩ bP,by simp⟩,J⟩
 |branch t y n ht I hn=>cases h;exact⟨⟨all2 ⟨_,_,rfl,I⟩ ⟨_,_,rfl,hn⟩,by simp⟩,bh ht bP,by simp⟩
 |back o ho=>cases h;exact⟨⟨bP,by simp⟩,bh ho bP,by simp⟩
 |rais s=>cases h;exact⟨⟨bP,by simp⟩,J⟩
 |risk op ex xs e cs he hx hd hc=>
  cases h;refine⟨⟨bh ⟨_,_,rfl,hd⟩ λy I=>?_,by rw[length_cons,length_map];have:=hc.2;lia⟩,hx⟩
  obtain⟨z,Y,rfl⟩:=mem_map.mp I;cases hc.1 z Y with
  |mk s e' h'=>exact⟨_,_,rfl,h'⟩
def Ah{k:Bool}(e:cN st x ys=some k)(h:Q (.bl k) st):W (bS .In x (.tup ys) st) Q:=by simp only[bS,bz,e];exact h
def qo{s a b:Str}:cN st (.str s) [.str a,.str b]=some ((a==s)||((b==s)||false)):=by simp only[cN,eq_str]
section
variable{k r:Nat}{st:aV}{Q:D->aV->Prop}{x:D}{es rs:List D}{loc:Loc}{a:Ex}
def v8(Y:EO x es rs)(hd:EndD x)(h:∀n st1,st1[n]? =some (.lst es)->st.length<=n->Gr st st1->Q (.ref n) st1):Wv (calls tab (k+1) oF [x] st) Q:=by
 walk_at "call0"
 cases Y with
 |jump e=>exact lG rfl<|bo<|br<|ab<|aQ<|ab<|bu<|aC rfl<|aN<|bJ rfl<|ab<|aN<|ag<|ag<|cI<|bi<|h _ _ am (af _)<|.one _ _
 |branch t y n=>exact iZ rfl rfl<|lG rfl<|bo<|br<|ab<|aQ<|ab<|bu<|aC rfl<|aN<|bJ rfl<|ab<|aN<|ag<|ab<|aQ<|ab<|bu<|aC rfl<|aN<|bJ rfl<|ab<|aN<|ag<|ag<|cI<|bi<|h _ _ am (af _)<|.one _ _
 |back|rais=>exact iZ rfl rfl<|iZ rfl rfl<|iZ rfl rfl<|bo<|br<|ag<|bi<|h _ _ am (af _)<|.one _ _
 |risk op ex e xs cs=>
  cases hd with
  |risk _ _ _ _ _ he Y hd hc=>
   refine iZ rfl rfl<|iZ rfl rfl<|lG rfl<|bo<|aZ<|br<|ab<|aQ<|ab<|bu<|aC rfl<|aN<|bJ rfl<|ab<|aN<|ag<|ag<|fv<|bu<|aC rfl<|aN<|bJ rfl ⟨_,rfl,kQ (F:=λc=>.tup [jm c,.bl false]) (ao hc.2 (by decide)) (λy hy I J=>?_) λI J=>?_⟩
   .cases hc.1 y hy with
    |mk s e' h'=>exact kq<|aQ<|ab<|aC rfl<|ab<|aN<|ag ⟨rfl,.refl _⟩
   .have Z:=((Gr.one st<|.lst [.tup [e,.bl true]]).trans J).more<|.lst<|cs.map λc=>.tup [jm c,.bl false];exact cZ (aF<|J.at am) am (by rw[length_map];have:=hc.2;simp only[length_cons,length_nil];lia)<|cI<|bi<|h _ _ am Z.le<|Z.more _
def v6(J:EO x es rs)(h:∀n st1,st1[n]? =some (.lst rs)->st.length<=n->Gr st st1->Q (.ref n) st1):Wv (calls tab (k+1) oC [x] st) Q:=by
 walk_at "call0"
 have I:∀{s:Str}{a ss:List S}{loc:Loc}{Q:Fl->aV->Prop}{xs:List D},loc[0]? =some (some<|.tup<|.str s::xs)->(("branch":Str)==s)=false->(("back":Str)==s)=false->W (execs (calls tab k) ss loc st) Q->W (execs (calls tab k) (.ite (.cmp .In (.ix (.v 0)<|.c<|.int 0)<|.tup [.c<|.str "branch",.c<|.str "back"]) a []::ss) loc st) Q:=λ{s a ss loc Q xs} Y h1 Z h=>
  eE (bn<|bu<|aC Y<|aN<|bJ km<|aQ<|ab<|aN<|ab<|aN<|ag<|Ah (k:=false) (by rw[qo,h1,Z];rfl) ⟨_,rfl,nofun,λ_=>aR<|bv h⟩)
 cases J with
 |jump|rais=>exact I rfl rfl rfl<|iZ rfl rfl<|bo<|br<|ag<|bi<|h _ _ am (af _)<|.one _ _
 |branch|back=>exact eE<|bn<|bu<|aC rfl<|aN<|bJ rfl<|aQ<|ab<|aN<|ab<|aN<|ag<|Ah (k:=true) (by rw[qo];rfl) ⟨_,rfl,λ_=>bo<|br<|ab<|bu<|aC rfl<|aN<|bJ rfl<|ag<|cI<|bi<|h _ _ am (af _)<|.one _ _,nofun⟩
 |risk op ex e xs cs=>exact I rfl rfl rfl<|lG rfl<|bo<|bH<|ab<|bu<|aC rfl<|aN<|bJ rfl<|ag<|cX<|cI<|bi<|h _ _ am (af _)<|.one _ _
def kB(h:W (run (calls tab<|k+1) a loc st) λx st1=>∃r e es rs,x=.ref r/\EO e es rs/\EndD e/\EndAt st1 r e/\∀n I,I[n]? =some (.lst es)->st1.length<=n->Gr st1 I->Q (.ref n) I):W (run (calls tab<|k+1) (.meth a "edges" mE []) loc st) Q:=by
 refine bV<|h.mono λx st1 hp=>?_;obtain⟨r,e,es,rs,rfl,ho,hd,hr,q⟩:=hp;cases hr with
 |jump hh=>
  cases ho;refine Ar hh rfl<|ag ?_
  walk_at "call0"
  exact bo<|br<|ab<|aQ<|ab<|aW<|aC rfl<|jV hh 0 rfl<|ab<|aN<|ag<|ag<|bi<|q _ _ am (af _)<|.one _ _
 |branch hh=>
  cases ho;refine Ar hh rfl<|ag ?_
  walk_at "call0"
  refine bo<|br<|ab<|aQ<|ab<|aW<|aC rfl<|jV hh 1 rfl<|ab<|aN<|ag ?_;exact ab<|aQ<|ab<|aW<|aC rfl<|jV hh 2 rfl<|ab<|aN<|ag<|ag<|bi<|q _ _ am (af _)<|.one _ _
 |back hh|rais hh=>
  cases ho;refine Ar hh rfl<|ag ?_
  walk_at "call0"
  exact bo<|br<|ag<|bi<|q _ _ am (af _)<|.one _ _
 | @risk op ex e xs cs hh=>
   cases ho;cases hd with
   |risk _ _ _ _ _ he hx hd hc=>
    refine Ar hh rfl<|ag ?_
    walk_at "call0"
    refine bo<|aZ<|br<|ab<|aQ<|ab<|aW<|aC rfl<|jV hh 3 rfl<|ab<|aN<|ag<|ag ?_;refine fv<|aW<|aC rfl<|jV (aF hh) 4 rfl ⟨_,rfl,kQ (F:=λc=>.tup [jm c,.bl false]) (ao hc.2 (by decide)) (λy Z I J=>?_) λI J=>?_⟩
    .cases hc.1 y Z with
     |mk s e' h'=>exact kq<|aQ<|ab<|aC rfl<|ab<|aN<|ag ⟨rfl,.refl _⟩
    .have Y:=((Gr.one st1<|.lst [.tup [e,.bl true]]).trans J).more<|.lst<|cs.map λc=>.tup [jm c,.bl false];exact cZ (aF<|J.at am) am (by rw[length_map];have:=hc.2;simp only[length_cons,length_nil];omega)<|bi<|q _ _ am Y.le<|Y.more _
def s_(h:W (run (calls tab<|k+1) a loc st) λx st1=>∃r e es rs,x=.ref r/\EO e es rs/\EndAt st1 r e/\∀n I,I[n]? =some (.lst rs)->st1.length<=n->Gr st1 I->Q (.ref n) I):W (run (calls tab<|k+1) (.meth a "reads" mR []) loc st) Q:=by
 refine bV<|h.mono λx st1 Z=>?_;obtain⟨r,e,es,rs,rfl,ho,Y,q⟩:=Z
 cases Y<;>rename_i J<;>cases ho<;>refine Ar J rfl (ag ?_)<;>walk_at "call0" <;>first
  |exact bo<|br<|ag<|bi<|q _ _ am (af _)<|.one _ _
  |exact bo<|br<|ab<|aW<|aC rfl<|jV J 0 rfl<|ag<|bi<|q _ _ am (af _)<|.one _ _
  |exact bo<|bH<|ab<|aW<|aC rfl<|jV J 2 rfl<|ag<|cX<|bi<|q _ _ am (af _)<|.one _ _
end
noncomputable def EL:D->List D
 | .tup [.tup [_,.tup xs],_]=>xs
 |_=>[]
def x_(es:List D):List D:=(es.map EL).flatten
def qd(h:es[i]? =some x):x_ (es.take<|i+1)=x_ (es.take i)++EL x:=by unfold x_;rw[take_add_one,h];simp
def EX.arg(h:EX es)(I:x∈es):∃i xs b,x=.tup [.tup [.int i,.tup xs],.bl b]/\qu xs:=by
 obtain⟨e,b,rfl,J⟩:=h.1 x I;cases J with
 |mk i xs h=>exact⟨_,_,_,rfl,h⟩
theorem EX.sm(h:EX es):∀x∈es,Sm 4 x:=λx I=>by obtain⟨e,b,rfl,J⟩:=h.1 x I;exact .tup<|all2 J.sm vW
def Az(h:Gr a b)(I:a.length<=n):Gr a (b.set n o):=by
 obtain⟨t,rfl⟩:=h;exact⟨t.set (n - a.length) o,by simp_all⟩
def ez(hi:st[i]? =some (.lst xs))(Y:st[j]? =some (.lst xs))(I:∀x∈xs,Sm m x)(J:m<59:=by decide):dX 60 st (.ref i) (.ref j)=some true:=by unfold dX;simp only[shape,hi,Y];exact i8 59 _ (lC λx h=>(I x h).1)<|lt_of_le_of_lt (kG λx h=>(I x h).2) J
section
variable{k r:Nat}{st:aV}{Q:D->aV->Prop}{x:D}{es rs:List D}{loc:Loc}{a:Ex}
def AO{Q:Unit->aV->Prop}(I:st[n]? =some (.lst xs))(J:xs.length+ys.length<=1000000)(h:Q () (st.set n<|.lst<|xs++ys)):W (extend (.ref n) (.tup ys) st) Q:=by simp only[extend,dU,I];rw[if_pos J];exact h
def nO{Q:Unit->aV->Prop}(I:st[n]? =some (.lst xs))(h:Q () (st.set n<|.lst [])):W (iD (.ref n) st) Q:=by simp only[iD,I];exact h
def yN(hx:EO x es rs)(hd:EndD x)(hr:EndAt st r x)(h:∀n st1,st1[n]? =some (.lst<|rs++x_ es)->st.length<=n->Gr st st1->Q (.ref n) st1):Wv (calls tab (k+2) jF [.ref r] st) Q:=by
 obtain⟨I,hrs⟩:=hx.ok hd
 walk_at "call0"
 refine a_<|s_<|aC rfl ⟨_,_,_,_,rfl,hx,hr,λn st1 hn ln g1=>?_⟩;refine iL<|kB<|aC rfl ⟨_,_,_,_,rfl,hx,hd,hr.kp<|iI g1,λm st2 hm lm g2=>⟨_,rfl,?_⟩⟩;have nlt:n<st1.length:=(au hn).1;have hL:dn (.at m) st2=es.length:=by simp only[dn,hm]
 refine di (L:=es) (by rw[hL];exact af _) (λi loc st'=>∃acc,Gr st st'/\st'[m]? =some (.lst es)/\st'[n]? =some (.lst acc)/\acc=rs++x_ (es.take i)/\acc.length<=20+20*i/\∃x2 x3,loc=[some<|.ref r,some<|.ref n,x2,x3]) ⟨rs,g1.trans g2,hm,g2.at hn,by simp[x_],hrs.2,_,_,rfl⟩ (λi loc st' J=>by obtain⟨_,_,e,_⟩:=J;simp only[iT,e]) (λi z loc st' hz J=>?_) λloc st' J=>?_
 .obtain⟨acc,g,e1,Y,Z,e4,x2,x3,rfl⟩:=J;obtain⟨j,xs,b,rfl,hxs⟩:=I.arg<|ah hz;have hi:=(au hz).1;have:=I.2;have:=hxs.2;refine hW rfl (C8<|aC rfl<|cW Y<|bu<|aC rfl<|aN<|bJ rfl<|AO Y (by lia)<|aR<|dE ⟨_,Az g ln,sn e1 (by lia),cA (au Y).1,?_,?_,_,_,rfl⟩)
  .rw[qd hz,Z,append_assoc];rfl
  .rw[aD];lia
 .obtain⟨acc,g,e1,Y,Z,e4,x2,x3,rfl⟩:=J;rw[take_length] at Z;subst Z;exact bv<|bo<|aC rfl<|bi<|h _ _ Y ln g
def tj(h:W (run (calls tab<|k+2) a loc st) λx st1=>∃r e es rs,x=.ref r/\EO e es rs/\EndD e/\EndAt st1 r e/\∀n I,I[n]? =some (.lst<|rs++x_ es)->st1.length<=n->Gr st1 I->Q (.ref n) I):W (run (calls tab<|k+2) (.meth a "every_read" mV []) loc st) Q:=by refine bV<|h.mono λx st1 Z=>?_;obtain⟨r,e,es,rs,rfl,ho,hd,Y,q⟩:=Z;have J:=Y;cases Y<;>exact Ar ‹_› rfl<|ag<|yN ho hd J q
theorem EndAt.ins(h:EndAt st r x):∃c fs,st[r]? =some (.ins c fs)/\c∈(["Jump","Branch","Back","Raise","Risk"]:List Str):=by
 cases h with
 |jump h=>exact⟨_,_,h,.head _⟩
 |branch h=>exact⟨_,_,h,.tail _<|.head _⟩
 |back h=>exact⟨_,_,h,.tail _<|.tail _<|.head _⟩
 |rais h=>exact⟨_,_,h,.tail _<|.tail _<|.tail _<|.head _⟩
 |risk h=>exact⟨_,_,h,.tail _<|.tail _<|.tail _<|.tail _<|.head _⟩
def v_(hd:EndD x)(hr:EndAt st r x):Wv (calls tab (k+3) jC [.ref r,x] st) (Fp st<|.bl true):=by
 obtain⟨es,rs,Y⟩:=hd.eo;obtain⟨I,hrs⟩:=Y.ok hd
 walk_at "call0"
 refine a_<|ck<|ab<|aC rfl<|ag<|v8 Y hd λn2 st1 a1 _ g1=>?_;refine a_<|ck<|ab<|aC rfl<|ag<|v6 Y λn3 J a2 _ g2=>?_;refine a_<|bH<|ab<|aC rfl<|ag<|yi a2 ?_;have b2:=aF (t:=[O.lst rs])<|g2.at a1;have b3:=aF (t:=[O.lst rs]) a2;have g3:=(g1.trans g2).more<|.lst rs;have b4:(J++[O.lst rs])[J.length]? =some (.lst rs):=am;generalize J.length=m0 at b4;generalize J++[O.lst rs]=st3 at b2 b3 b4 g3;refine iL<|aC rfl ⟨_,rfl,?_⟩;have hL:dn (.at n2) st3=es.length:=by simp only[dn,b2]
 refine di (L:=es) (by rw[hL];exact af _) (λi loc st'=>∃acc n4,Gr st3 st'/\st'[n4]? =some (.lst acc)/\acc=rs++x_ (es.take i)/\acc.length<=20+20*i/\∃x5 x6,loc=[some<|.ref r,some x,some<|.ref n2,some<|.ref n3,some<|.ref n4,x5,x6,none]) ⟨rs,m0,.refl _,b4,by simp[x_],hrs.2,_,_,rfl⟩ (λi loc st' hI=>by obtain⟨_,_,g,_⟩:=hI;simp only[iT,g.at b2]) (λi z loc st' hz hI=>?_) λloc st' hI=>?_
 .obtain⟨acc,n4,g,e2,e3,e4,x5,x6,rfl⟩:=hI;obtain⟨j,xs,b,rfl,hxs⟩:=I.arg<|ah hz;have hi:=(au hz).1;have:=I.2;have:=hxs.2;refine hW rfl (a_<|aZ<|aC rfl<|bH<|ab<|bu<|aC rfl<|aN<|bJ rfl<|ag<|cX<|cZ (aF e2) am (by lia)<|aR<|dE ⟨_,_,(g.more _).more _,am,?_,?_,_,_,rfl⟩)
  .rw[qd hz,e3,append_assoc];rfl
  .rw[aD];omega
 .obtain⟨acc,n4,g,e2,e3,e4,x5,x6,rfl⟩:=hI;rw[take_length] at e3;subst e3;have E4:=g3.trans g
  have sr:∀y∈rs++x_ es,Sm 1 y:=cn hrs.1 λy hy=>by obtain⟨l,hl,hy⟩:=List.mem_flatten.mp hy;obtain⟨z,hz,rfl⟩:=mem_map.mp hl;obtain⟨j,xs,b,rfl,hxs⟩:=I.arg hz;exact hxs.1 y hy
  have R4:=hr.kp<|iI E4;obtain⟨c,fs,hi,hc⟩:=R4.ins;refine bv<|ie<|dD<|w_not<|r_<|aC rfl ⟨_,_,_,rfl,hi,hc,_,rfl,rfl,?_⟩;refine dD<|bn<|wT<|aC rfl ⟨_,_,rfl,R4,aC rfl<|gn hd.sm (by decide) ⟨rfl,?_⟩⟩
  refine dD<|bn<|kB<|aC rfl ⟨_,_,_,_,rfl,Y,hd,R4,λn5 st5 a5 _ g5=>aC rfl<|j6 (ez a5 (g5.at<|g.at b2) I.sm) ⟨rfl,?_⟩⟩;refine bn<|s_<|aC rfl ⟨_,_,_,_,rfl,Y,R4.kp<|iI g5,λn6 st6 a6 _ g6=>aC rfl<|j6 (ez a6 ((g5.trans g6).at<|g.at b3) hrs.1) ⟨rfl,?_⟩⟩;have g7:=g5.trans g6;refine a_<|tj<|aC rfl ⟨_,_,_,_,rfl,Y,hd,R4.kp<|iI g7,λn8 st8 a8 l8 g8=>?_⟩;have E8:=(g7.trans g8);refine ie<|dD<|w_not<|o9<|aC rfl ⟨by simp only[w_,a8],_,rfl,rfl,?_⟩
  refine bn<|aC rfl<|aC rfl<|j6 (ez a8 (E8.at e2) sr) ⟨rfl,?_⟩;refine o_<|aC rfl<|nO a8 ?_;have g9:Gr st' (st8.set n8<|.lst []):=g7.trans<|Az g8 l8;generalize st8.set n8 (.lst [])=st9 at g9;refine o_<|kB<|aC rfl ⟨_,_,_,_,rfl,Y,hd,R4.kp<|iI g9,λn10 st10 a10 l10 g10=>nO a10 ?_⟩;have h:Gr st' (st10.set n10<|.lst []):=g9.trans<|Az g10 l10;generalize st10.set n10 (.lst [])=st11 at h;refine bo<|w_and<|bn<|tj<|aC rfl ⟨_,_,_,_,rfl,Y,hd,R4.kp<|iI h,λn12 st12 a12 _ Z=>aC rfl<|w_eq (ez a12 ((h.trans Z).at e2) sr) ⟨_,rfl,λ_=>?_,nofun⟩⟩;refine bn<|kB<|aC rfl ⟨_,_,_,_,rfl,Y,hd,R4.kp<|iI<|h.trans Z,λn13 st13 a13 _ g13=>aC rfl<|w_eq (ez a13 ((h.trans<|Z.trans g13).at<|g.at b2) I.sm)<|bi ⟨rfl,?_⟩⟩;exact E4.trans<|h.trans<|Z.trans g13
end
def jr(h:(rs.map D.ref)[i]? =some x):∃m,rs[i]? =some m/\x=.ref m:=by
 rw[az] at h;cases e:rs[i]? with
 |_=>simp_all
noncomputable def qt:D->Option D
 | .tup (.int i::_)=>some<|.int i
 |_=>none
noncomputable def E9:D->D
 | .tup (_::o::_)=>o
 |d=>d
noncomputable def EZ:D->Bool
 | .tup (_:: .str o::_)=>o== "tick"
 |_=>false
def xH:cutD (xs++[y]) none (some<|-1)=xs:=by
 unfold cutD
 have e:HT.c_ (xs++[y]).length (xs++[y]).length (some<|-1)=xs.length:=by
  unfold HT.c_;simp only[length_append,length_cons,length_nil];rw[if_pos (by decide)]
  lia
 rw[HT.we,e];simp
theorem tW:∀{F:D->Bool}{xs:List D},u9 (xs.map λd=>.bl<|F d)=some (xs.map F)
 |_,[]=>rfl
 |F,x::xs=>by show(u9 _).map _=_;rw[tW];rfl
theorem tY{st:aV}:∀{rows:List D},(∀d∈rows,RowD d)->cN st (.str "tick") (rows.map E9)=some (rows.any EZ)
 |[],_=>rfl
 |x::rows,h=>by
  cases h x (.head _) with
  |mk n op ex xs hn he hx=>
   have I:=tY (st:=st) λd hd=>h d<|.tail _ hd;show cN st _ (.str op::rows.map E9)=some ((op== "tick")||rows.any EZ);unfold cN;rw[eq_str,I]
section
variable{k r e:Nat}{st:aV}{Q:D->aV->Prop}{f:D->M (Option D)}{loc:Loc}{a:Ex}{ps rows:List D}{x:D}{rs:List Nat}
def vA{G:D->Option D}(hl:xs.length<=1000000)(Y:ys.length=xs.length)(h:∀(i:Nat) x y,xs[i]? =some x->ys[i]? =some y->∀st1,Gr st st1->W (f x st1) λo I=>o=G y/\Gr st1 I)(k:∀I,Gr st I->Q (.ref I.length) (I++[.lst<|ys.filterMap G])):W (bY f (.its xs) st) Q:=by
 refine eI (L:=xs) hl (af _) (λi acc st1=>Gr st st1/\acc=(ys.take i).filterMap G) ⟨.refl _,rfl⟩ (λi acc st1 _=>rfl) (λi x acc st1 e J=>?_)<|λacc st1 J=>?_
 .obtain⟨g,rfl⟩:=J;have hi:i<ys.length:=by rw[Y];exact(au e).1
  have Z:ys[i]? =some ys[i]:=aA hi;refine(h i x _ e Z st1 g).mono λo I q=>?_;obtain⟨rfl,g2⟩:=q;refine⟨g.trans g2,?_⟩;rw[take_add_one,Z,List.filterMap_append];show _=_++List.filterMap G [ys[i]];cases hG:G ys[i]<;>simp[hG]
 .obtain⟨g,rfl⟩:=J;rw[<-Y,take_length];exact k st1 g
def w_anyB{bs:List Bool}(I:st[n]? =some (.lst xs))(J:u9 xs=some bs)(h:Q (.bl<|bs.any id) st):W (cK .any [.ref n] st) Q:=by simp only[cK,mm,dU,I,bind_some,J];exact h
def C7{b:Bool}(I:st[n]? =some (.lst xs))(J:cN st y xs=some b)(h:Q (.bl b) st):W (bS .In y (.ref n) st) Q:=by simp only[bS,bz,I,J];exact h
def yL(hd:BlkD ps rows x)(I:BlkAt st r ps rows x rs e)(h:∀n st1,st1[n]? =some (.lst<|ps++rows.filterMap qt)->st.length<=n->Gr st st1->Q (.ref n) st1):Wv (calls tab (k+1) mz [.ref r] st) Q:=by
 walk_at "call0"
 refine bo<|aZ<|bH<|ab<|aW<|aC rfl<|vb I.ins 0 rfl<|ag<|cX ?_;have A:=I.kp (iI<|.one st<|.lst ps);refine iM<|aW<|aC rfl<|vb A.ins 1 rfl ⟨_,rfl,?_⟩;refine vA (ys:=rows) (G:=qt) (by rw[length_map,I.len];exact ao hd.rl (by decide)) (by rw[length_map,I.len]) (λi z y h1 Y st1 J=>?_) λst1 J=>?_
 .obtain⟨m,h3,rfl⟩:=jr h1;have hy:=hd.r y<|ah Y;have hR:=(A.row i m y h3 Y).kp<|iI J;cases hy with
  |mk nm op ex xs hn he hx=>
   cases hR with
   |mk hh=>
    cases hn with
    |non=>exact kt<|bn<|aW<|aC rfl<|jV hh 0 rfl<|aN<|kr (k:=true) rfl ⟨_,rfl,nofun,λ_=>⟨rfl,.refl _⟩⟩
    |int i=>exact kt<|bn<|aW<|aC rfl<|jV hh 0 rfl<|aN<|kr (k:=false) rfl ⟨_,rfl,λ_=>aW<|aC rfl<|jV hh 0 rfl ⟨rfl,.refl _⟩,nofun⟩
 .have Z:=((Gr.one st<|.lst ps).trans J).more<|.lst<|rows.filterMap qt;refine cZ (aF<|J.at am) am ?_<|bi<|h _ _ am Z.le<|Z.more _;have:=hd.p.2;have:=hd.rl;have:=List.length_filterMap_le qt rows
  lia
def yG(hd:BlkD ps rows x)(J:BlkAt st r ps rows x rs e)(h:∀st1,Gr st st1->Q (.bl<|rows.any EZ) st1):Wv (calls tab (k+1) my [.ref r] st) Q:=by
 walk_at "call0"
 refine bo<|bH<|ab<|dH<|aW<|aC rfl<|vb J.ins 1 rfl ⟨_,rfl,?_⟩;refine kU (ys:=rows.map λd=>.bl<|EZ d) (by rw[length_map,J.len];exact ao hd.rl (by decide)) (by rw[length_map,length_map,J.len]) (λi z y h1 I st1 Y=>?_) λst1 Y=>?_
 .obtain⟨m,h3,rfl⟩:=jr h1;rw[az] at I;cases h4:rows[i]? with
  |none=>rw[h4] at I;cases I
  |some d=>
   rw[h4] at I;cases I;have Z:=(J.row i m d h3 h4).kp<|iI Y;cases hd.r d (ah h4) with
   |mk nm op ex xs hn he hx=>
    cases Z with
    |mk hh=>exact cY<|bn<|aW<|aC rfl<|jV hh 1 rfl<|aN<|w_eq eq_str ⟨rfl,.refl _⟩
 .refine ag<|w_anyB am tW<|bi ?_;rw[any_map];exact h _<|Y.more _
def wJ(J:CK ps)(I:∀d∈rows,RowD d):∀y∈ps++rows.filterMap qt,Sm 0 y:=cn (λp h=>by
 obtain⟨i,rfl⟩:=J.1 p h;exact eO) λy h=>by
 obtain⟨d,hd,e⟩:=mem_filterMap.mp h;cases I d hd with
 |mk n op ex xs hn he hx=>
  cases hn with
  |non=>cases e
  |int i=>cases e;exact eO
noncomputable abbrev mG:List (Str×Nat):=[("Block",43)]
def tf(h:W (run (calls tab<|k+1) a loc st) λy st1=>∃r ps rows x rs e,y=.ref r/\BlkD ps rows x/\BlkAt st1 r ps rows x rs e/\∀n I,I[n]? =some (.lst<|ps++rows.filterMap qt)->st1.length<=n->Gr st1 I->Q (.ref n) I):W (run (calls tab<|k+1) (.meth a "given" mG []) loc st) Q:=by refine bV<|h.mono λy st1 Y=>?_;obtain⟨r,ps,rows,x,rs,e,rfl,hd,J,q⟩:=Y;exact⟨_,_,_,43,rfl,J.ins,rfl,rfl,ag<|yL hd J q⟩
end
def tI{ps:List D}(h:CK ps):Sm 1 (.tup ps):= .tup λp I=>by obtain⟨i,rfl⟩:=h.1 p I;exact eO
theorem BlkD.sm{ps:List D}(h:BlkD ps rows x):Sm 7 (.tup [.tup ps,.tup rows,x]):=
 .tup (bh ((tI h.p).mono (by decide))<|bh (Sm.mono (.tup λr I=>(h.r r I).sm) (by decide))<|bh h.e.sm bP)
section
variable{k r e:Nat}{st:aV}{ps rows:List D}{x:D}{rs:List Nat}
def wc(hd:BlkD ps rows x)(I:BlkAt st r ps rows x rs e):Wv (calls tab (k+4) iy [.ref r,.tup [.tup ps,.tup rows,x]] st) (Fp st<|.bl true):=by
 have rl:rows.length<=1000000:=ao hd.rl (by decide)
 walk_at "call0"
 refine kP<|aC rfl ⟨_,rfl,rfl,?_⟩;refine ie<|dD<|bn<|bV<|aC rfl ⟨_,_,_,42,rfl,I.ins,rfl,rfl,ag ?_⟩;refine Wv.mono (li (k:=k+1) hd.rl I) λy st1 q=>?_;obtain⟨rfl,g1⟩:=q;have A1:=I.kp<|iI g1;refine aC rfl<|gn hd.sm (by decide) ⟨rfl,?_⟩
 refine dD<|bn<|aW<|aC rfl<|vb A1.ins 0 rfl<|aC rfl<|gn (tI hd.p) (by decide) ⟨rfl,?_⟩
 refine w_not<|o9<|aW<|aC rfl<|vb A1.ins 1 rfl ⟨rfl,_,rfl,rfl,?_⟩;refine ie<|dD<|bn<|dH<|aW<|aC rfl<|vb A1.ins 1 rfl ⟨_,rfl,?_⟩;refine kU (ys:=rows) (by rw[length_map,I.len];exact rl) (by rw[length_map,I.len]) (λi a d h1 J st2 g2=>?_) λst2 g2=>?_
 .obtain⟨m,h3,rfl⟩:=jr h1;exact cY<|sZ<|aC rfl ⟨_,_,rfl,(A1.row i m d h3 J).kp<|iI g2,rfl,.refl _⟩
 refine bH<|ab<|aC rfl<|ag<|cX<|j6 (ez (aF am) am λd h=>(hd.r d h).sm) ⟨rfl,?_⟩;have g3:=(g1.trans<|g2.more<|.lst rows).more (.lst rows);generalize st2++[O.lst rows]++[O.lst rows]=st3 at g3;have A3:=I.kp (iI g3);refine w_not<|ck<|ab<|aW<|aC rfl<|vb A3.ins 2 rfl<|ab<|aC rfl<|ag ?_;refine Wv.mono (v_ hd.e A3.fin) λy st4 q=>?_;obtain⟨rfl,g4⟩:=q;refine⟨_,rfl,rfl,?_⟩;have g5:=g3.trans g4;have A5:=I.kp (iI g5);refine nM<|aW<|aC rfl<|vb A5.ins 1 rfl<|aC rfl ?_;refine di (L:=nJ (rs.map .ref) rows) (kL _ _) (λ_ loc st'=>Gr st st'/\∃a5 a6,loc=[some<|.ref r,some<|.tup [.tup ps,.tup rows,x],some<|.tup ps,some<|.tup rows,some x,a5,a6,none]) ⟨g5,_,_,rfl⟩ (λ_ _ _ _=>wH) (λi z loc st' hz hp=>?_) λloc st' hp=>?_
 .obtain⟨g,a5,a6,rfl⟩:=hp;obtain⟨p,d,h1,J,rfl⟩:=oZ hz;obtain⟨m,h3,rfl⟩:=jr h1;have hR:=(I.row i m d h3 J).kp<|iI g;have hd':=hd.r d<|ah J;have sm:=hd'.sm;cases hR with
  |mk hh=>
   refine hW rfl<|ie<|dD<|bn<|aQ<|ab<|aW<|aC rfl<|jV hh 0 rfl ?_;refine ab<|aW<|aC rfl<|jV hh 1 rfl ?_;refine ab<|aW<|aC rfl<|jV hh 2 rfl ?_;refine ab<|aW<|aC rfl<|jV hh 3 rfl<|ag<|aC rfl<|gn sm (by decide) ⟨rfl,?_⟩
   exact w_not<|r_<|aC rfl ⟨_,_,_,rfl,hh,.head _,_,rfl,rfl,aR<|dE ⟨g,_,_,rfl⟩⟩
 .obtain⟨g,a5,a6,rfl⟩:=hp;have A6:=I.kp<|iI g;refine bv<|a_<|tf<|aC rfl ⟨_,_,_,_,_,_,rfl,hd,A6,λn7 st7 a7 l7 g7=>?_⟩;refine ie (dD<|w_not<|o9<|aC rfl ⟨by simp only[w_,a7],_,rfl,rfl,?_⟩)
  refine bn<|aC rfl<|aZ<|bH<|ab<|aC rfl<|ag<|cX<|iM<|aC rfl ⟨_,rfl,?_⟩;refine vA (ys:=rows) (G:=qt) rl rfl (λi z y h1 J st8 g8=>?_) λst8 g8=>?_
  .rw[J] at h1;cases h1;cases hd.r z (ah J) with
   |mk nm op ex xs hn he hx=>
    cases hn with
    |non=>exact kt<|bn<|bu<|aC rfl<|aN<|bJ rfl<|aN<|kr (k:=true) rfl ⟨_,rfl,nofun,λ_=>⟨rfl,.refl _⟩⟩
    |int i=>exact kt<|bn<|bu<|aC rfl<|aN<|bJ rfl<|aN<|kr (k:=false) rfl ⟨_,rfl,λ_=>bu<|aC rfl<|aN<|bJ rfl ⟨rfl,.refl _⟩,nofun⟩
  have nl:=List.length_filterMap_le qt rows;have pl:=hd.p.2;have rl':=hd.rl;have nsm:=wJ hd.p hd.r;have g9:=((((Gr.one st7<|.lst ps).trans g8).more<|.lst<|rows.filterMap qt).more<|.lst<|ps++rows.filterMap qt);refine cZ (aF<|g8.at am) am (by lia)<|j6 (ez (g9.at a7) am nsm) ⟨rfl,?_⟩
  have a9:=g9.at a7;have gA:=g7.trans g9;generalize st8++[O.lst<|rows.filterMap qt]++[O.lst<|ps++rows.filterMap qt]=st9 at a9 gA;refine ij<|aC rfl<|cW a9<|aN<|cM a9 (by rw[aD];lia) ?_
  have gB:Gr st' (st9.set n7<|.lst<|ps++rows.filterMap qt++[.int 5]):=Az gA l7;have aB:(st9.set n7<|.lst<|ps++rows.filterMap qt++[.int 5])[n7]? =some (.lst<|ps++rows.filterMap qt++[.int 5]):=cA (au a9).1;generalize st9.set n7 (.lst<|ps++rows.filterMap qt++[.int 5])=st10 at gB aB;have Z:=A6.kp<|iI gB;refine a_<|bV<|aC rfl ⟨_,_,_,44,rfl,Z.ins,rfl,rfl,ag<|yG hd Z λst11 g11=>?_⟩;refine ie<|dD<|w_not<|o9<|aC rfl ⟨rfl,_,rfl,rfl,?_⟩;refine bn<|aC rfl<|bn<|aN<|dH<|aC rfl ⟨_,rfl,kQ (F:=E9) rl (λd hdd st12 g12=>?_) λst12 g12=>C7 am (tY hd.r)<|gn (m:=0) vW (by decide) ⟨rfl,?_⟩⟩
  .cases hd.r d hdd with
   |mk nm op ex xs hn he hx=>exact cY<|bu<|aC rfl<|aN<|bJ rfl ⟨rfl,.refl _⟩
  have Y:=g11.trans<|g12.more<|.lst<|rows.map E9;have A13:=Z.kp<|iI Y;refine bo<|bn<|tf<|aC rfl ⟨_,_,_,_,_,_,rfl,hd,A13,λn14 st14 a14 _ g14=>?_⟩;refine ip<|aC rfl<|aN ⟨_,rfl,o8 ((Y.trans g14).at aB) ?_⟩;rw[xH];exact w_eq (ez (aF a14) am nsm)<|bi ⟨rfl,g.trans<|gB.trans<|(Y.trans g14).more _⟩
end
noncomputable def As:D->Int
 | .tup [_,.tup rows,_]=>rows.length+1
 |_=>0
theorem ints_map:∀{F:D->Int}{xs:List D},im (xs.map λd=>.int<|F d)=some (xs.map F)
 |_,[]=>rfl
 |F,x::xs=>by show(im _).map _=_;rw[ints_map];rfl
section
variable{k m:Nat}{st:aV}{Q:D->aV->Prop}{loc:Loc}{a b:Ex}{rs:List Nat}{tk bs:List D}{kv:List (Key×D)}
def vn{ns:List Int}(I:st[n]? =some (.lst xs))(J:im xs=some ns)(h:Q (.int ns.sum) st):W (cK .sum [.ref n] st) Q:=by simp only[cK,mm,dU,I,bind_some,J];exact h
def AE(h:W (run g a loc st) λd st1=>∃s,cu false d=some s/\W (bY (mK λx y z=>run g b<|some x::some y::some z::loc) s st1) λx I=>W (cK .sum [x] I) Q):W (run g (.sum3 a b) loc st) Q:=by
 exact aH<|aH<|h.mono λ_ _ ⟨s,e,q⟩=>aH (by rw[e];exact q)
def yf{f:D->D->D->M D}{Q:Option D->aV->Prop}(h:W (f x y z st) λw st1=>Q (some w) st1):W (mK f (.tup [x,y,z]) st) Q:=aH<|h.mono λ_ _ q=>q
abbrev GJ(st:aV)(m:Nat)(rs:List Nat)(bs:List D):Prop:=(∃t g a b,st[m]? =some (.ins "Function"<|Cj t g a b<|.tup<|rs.map .ref))/\mj st rs bs
def FnAt.fi{g:D}(h:FnAt st m tk g kv rs bs):GJ st m rs bs:=by obtain⟨⟨a,b,h1,_,_⟩,I⟩:=h;exact⟨⟨_,_,_,_,h1⟩,I⟩
def FnAt.gr{g:D}(h:FnAt st m tk g kv rs bs)(G:Gr st st'):FnAt st' m tk g kv rs bs:=by obtain⟨⟨a,b,h1,Y,J⟩,I⟩:=h;exact⟨⟨a,b,G.at h1,G.at Y,G.at J⟩,I.kp<|iI G⟩
def sx(Y:nI bs)(Z:GJ st m rs bs)(h:∀st1,Gr st st1->Q (.int (bs.map As).sum) st1):Wv (calls tab (k+1) jE [.ref m] st) Q:=by
 obtain⟨⟨t,g,a,b,h1⟩,I⟩:=Z
 walk_at "call0"
 refine bo<|bH<|ab<|dH<|aW<|aC rfl<|tK h1 4 rfl ⟨_,rfl,?_⟩;refine kU (ys:=bs.map λd=>.int<|As d) (by rw[length_map,I.1];exact ao Y.2 (by decide)) (by rw[length_map,length_map,I.1]) (λi z y q1 q2 st1 J=>?_) λst1 J=>?_
 .obtain⟨p,q3,rfl⟩:=jr q1;rw[az] at q2;cases q4:bs[i]? with
  |none=>rw[q4] at q2;cases q2
  |some d=>rw[q4] at q2;cases q2;obtain⟨ps,rows,x,qs,e,rfl,hd,hB⟩:=I.2 i p d q3 q4;have B:=hB.kp<|iI J;refine cY<|aZ<|bH<|ab<|aW<|aC rfl<|vb B.ins 1 rfl<|ag<|iq<|aN<|w_add ⟨?_,.refl _⟩;rw[length_map,B.len];rfl
 .exact ag<|vn am ints_map<|bi<|h _<|J.more _
def DV(h:va kv):Sm 3 (.tup<|kp kv):= .tup λx I=>by obtain⟨p,J,rfl⟩:=mem_map.mp I;exact .tup<|all2 eO (h p J).2.sm
def nR(h1:CJ tk)(Z:va kv)(Y:nI bs):Sm 9 (.tup [.tup tk,kN,.tup<|kp kv,.tup bs]):=by
 refine .tup<|bh ?_<|bh ?_<|bh ?_<|bh ?_ bP
 .exact Sm.mono (.tup λx I=>(h1 x I).sm) (by decide)
 .trivial
 .exact(DV Z).mono (by decide)
 .exact .tup λb J=>by obtain⟨ps,rows,x,rfl,h⟩:=Y.1 b J;exact h.sm
def Co(hi:st[i]? =some (.dct kv))(Z:st[j]? =some (.dct kv))(Y:va kv):dX 60 st (.ref i) (.ref j)=some true:=by
 unfold dX;simp only[shape,hi,Z]
 have J:(kv.map (·.1)).all Ca=true:=by rw[all_eq_true];intro x h;obtain⟨p,I,rfl⟩:=mem_map.mp h;obtain⟨⟨i,e⟩,_⟩:=Y p I;rw[e];rfl
 rw[if_pos ⟨trivial,J⟩];refine i8 59 _ (lC λx h=>?_)<|lt_of_le_of_lt (kG (m:=1) λx h=>?_) (by decide)
 .obtain⟨p,I,rfl⟩:=mem_map.mp h;exact(Y p I).2.sm.1
 .obtain⟨p,I,rfl⟩:=mem_map.mp h;exact(Y p I).2.sm.2
structure FD(tk:List D)(kv:List (Key×D))(bs:List D):Prop where
 t:CJ tk
 tl:tk.length<=12
 k:Ks kv
 b:nI bs
 l:0<bs.length
abbrev fT(tk:List D)(kv:List (Key×D))(bs:List D):D:= .tup [.tup tk,kN,.tup<|kp kv,.tup bs]
def pA(hd:FD tk kv bs)(h:FnAt st m tk kN kv rs bs):Wv (calls tab (k+5) gi [.ref m,fT tk kv bs] st) (Fp st<|.bl true):=by
 have kl:kv.length<64:=lt_of_le_of_lt hd.k.few (by decide)
 have bl:bs.length<=1000000:=ao hd.b.2 (by decide)
 walk_at "call0"
 refine kP<|aC rfl ⟨_,rfl,rfl,?_⟩;obtain⟨c,d,i0,_,_⟩:=h.ins;refine ie<|dD<|bn<|bV<|aC rfl ⟨_,_,_,46,rfl,i0,rfl,rfl,ag ?_⟩;refine Wv.mono (e7 (k:=k+1) hd.k.ri kl hd.b.2 h) λy st1 q=>?_;obtain⟨rfl,g1⟩:=q;obtain⟨a1,b1,i1,j1,j1'⟩:=(h.gr g1).ins;refine aC rfl<|gn (nR hd.t hd.k.sn hd.b) (by decide) ⟨rfl,?_⟩
 refine bn<|aQ<|ab<|aW<|aC rfl<|tK i1 0 rfl ?_;refine ab<|aW<|aC rfl<|tK i1 1 rfl<|ag<|aQ<|ab<|aC rfl<|ab<|aC rfl<|ag<|gn (m:=3) ?_ (by decide) ⟨rfl,?_⟩
 .exact .tup<|all2 (Sm.tup (m:=1) λx hx=>(hd.t x hx).sm)<|iu.sm.mono (by decide)
 refine ie<|bn<|aW<|aC rfl<|tK i1 2 rfl<|bH<|ab<|aC rfl<|ag<|nN (oa hd.k.ri.i) ?_;rw[hd.k.ri.fill];refine j6 (Co (aF j1) am hd.k.sn) ⟨rfl,?_⟩;have Z:=g1.more<|.dct kv;generalize st1++[O.dct kv]=st2 at Z;have F2:=h.gr Z;obtain⟨a2,b2,i2,_,_⟩:=F2.ins;refine ie<|dD<|w_not<|o9<|aW<|aC rfl<|tK i2 4 rfl ⟨rfl,_,rfl,rfl,?_⟩;refine bn<|bH<|ab<|aW<|aC rfl<|tK i2 4 rfl<|ag<|iq<|bH<|ab<|aC rfl<|ag<|iq<|Ae ⟨?_,?_⟩
 .rw[length_map,F2.bl.1];simp
 refine nM<|aW<|aC rfl<|tK i2 4 rfl<|aC rfl ?_;refine di (L:=nJ (rs.map .ref) bs) (kL _ _) (λ_ loc st'=>Gr st st'/\∃a6 a7,loc=[some<|.ref m,some<|fT tk kv bs,some<|.tup tk,some kN,some<|.tup<|kp kv,some<|.tup bs,a6,a7]) ⟨Z,_,_,rfl⟩ (λ_ _ _ _=>wH) (λi z loc st' hz J=>?_) λloc st' J=>?_
 .obtain⟨g,a6,a7,rfl⟩:=J;obtain⟨p,d,h1,h2,rfl⟩:=oZ hz;obtain⟨q,h3,rfl⟩:=jr h1;obtain⟨ps,rows,x,qs,e,rfl,hD,hB⟩:=h.bl.2 i q d h3 h2;refine hW rfl<|ie<|w_not<|ck<|ab<|aC rfl<|ab<|aC rfl<|ag ?_;refine Wv.mono (wc hD<|hB.kp<|iI g) λy st3 q=>?_;obtain⟨rfl,g3⟩:=q;exact⟨_,rfl,rfl,aR<|dE ⟨g.trans g3,_,_,rfl⟩⟩
 .obtain⟨g,a6,a7,rfl⟩:=J;have F3:=h.gr g;obtain⟨a3,b3,i3,_,_⟩:=F3.ins;refine bv<|bo<|bn<|bV<|aC rfl ⟨_,_,_,47,rfl,i3,rfl,rfl,ag<|sx hd.b F3.fi λst4 g4=>?_⟩;refine AE (aC rfl ⟨_,rfl,kQ (F:=λd=>.int<|As d) bl (λd Y I g5=>?_) λI g5=>?_⟩)
  .obtain⟨ps,rows,x,rfl,hD⟩:=hd.b.1 d Y;exact yf<|aZ<|bH<|ab<|aC rfl<|ag<|iq<|aN<|w_add ⟨rfl,.refl _⟩
  .exact vn am ints_map<|w_eq (Sm.eq (m:=0) eO)<|bi ⟨rfl,g.trans<|g4.trans<|g5.more _⟩
end
def set_same(h:st[n]? =some o):st.set n o=st:=by
 refine List.ext_getElem? λi=>?_;by_cases hi:n=i
 .subst hi;rw[h,aY (au h).1]
 simp_all
noncomputable def CP(a b:Nat):List (Str×D):=[("functions",.ref a),("kept_functions",.ref b)]
structure CdAt(st:aV)(m:Nat)(fs:List (Key×D)):Prop where
 ins:∃a b,st[m]? =some (.ins "Code"<|CP a b)/\st[a]? =some (.dct fs)/\st[b]? =some (.dct fs)
def CdAt.gr{fs:List (Key×D)}(h:CdAt st m fs)(g:Gr st st'):CdAt st' m fs:=by obtain⟨a,b,h1,J,I⟩:=h;exact⟨a,b,g.at h1,g.at J,g.at I⟩
def AB{a b:Nat}(h:st1[p]? =some (.ins "Code"<|CP a b))(i:Nat)(hi:(CP a b)[i]? =some (f,d))(q:P d)(I:(((CP a b).take i).map (·.1)).contains f=false:=by(simp only[CP,take_succ_cons,take_zero,map_cons,map_nil];decide+kernel)):∃n c fs d,D.ref p=.ref n/\st1[n]? =some (.ins c fs)/\fs.lookup f=some d/\c∈(["Code"]:List Str)/\P d:=⟨p,_,_,d,rfl,h,lk i hi I,.head _,q⟩
section
variable{k m n:Nat}{st:aV}{Q:D->aV->Prop}{fs:List (Key×D)}{loc:Loc}{o elt:Ex}
def rK{d:Nat}(hd:st[d]? =some (.dct fs))(h:∀a b st1,st1[st.length]? =some (.ins "Code"<|CP a b)->st1[a]? =some (.dct fs)->st1[b]? =some (.dct fs)->(st.length<a/\st.length<b)->Gr st st1->Q .non st1):Wv (calls tab (k+1) pZ [.ref st.length,.ref d]<|st++[.ins "Code" []]) Q:=by
 obtain⟨J,I⟩:∃J,J=st++[O.ins "Code" []]:=⟨_,rfl⟩;rw[<-I]
 walk_at "call0"
 rw[I];have e1:∀a:O,(st++[a]).length=st.length+1:=λa=>by simp
 have Y:∀a b:O,(st++[a,b]).length=st.length+2:=λa b=>by simp
 refine d8 rfl<|bH<|ab<|aC rfl<|ag<|fu (aF hd)<|ml (aF am) ?_;rw[e1,append_assoc,show ∀a b:O,[a]++[b]=[a,b] from λ_ _=>rfl,gu];refine d8 rfl<|bH<|ab<|aC rfl<|ag<|fu (aF hd)<|ml (aF vH) ?_;rw[Y,bO _ _ (by simp),gu]
 refine aR<|jT<|h (st.length+1) (st.length+2) _ (aF vH) (aF t4) ?_ (by lia) ⟨_,by rw[append_assoc]⟩
 simp
def AG(J:st[n]? =some (.dct fs))(I:mL fs=some ns)(Y:ns.length<64/\PyProof.Rows.sortedS (Tab23.dI ns)=true)(h:Q (.ref st.length) (st++[.lst<|(Tab23.dI ns).map .str])):W (cK .sorted [.ref n] st) Q:=by simp only[cK,mm,dU,c8,J,bind_some,I,t_];rw[if_pos Y];exact h
def vo(J:st[n]? =some (.lst xs))(I:sq xs=some ns)(Y:ns.length<64/\PyProof.Rows.sortedS (Tab23.dI ns)=true)(h:Q (.ref st.length) (st++[.lst<|(Tab23.dI ns).map .str])):W (cK .sorted [.ref n] st) Q:=by simp only[cK,mm,dU,J,I,t_];rw[if_pos Y];exact h
noncomputable abbrev mN:List (Str×Nat):=[("Code",50)]
def yJ(Y:CdAt st m fs)(I:mL fs=some ns)(J:ns.length<64/\PyProof.Rows.sortedS (Tab23.dI ns)=true)(h:∀n st1,st1[n]? =some (.lst<|(Tab23.dI ns).map .str)->st.length<=n->Gr st st1->Q (.ref n) st1):Wv (calls tab (k+1) oI [.ref m] st) Q:=by
 obtain⟨a,b,h1,h2,Z⟩:=Y.ins
 walk_at "call0"
 exact bo<|bH<|ab<|aW<|aC rfl<|AB h1 1 rfl<|ag<|AG Z I J<|bi<|h _ _ am (af _)<|.one _ _
def iX(h:W (run (calls tab<|k+1) o loc st) λy st1=>∃m fs ns,y=.ref m/\CdAt st1 m fs/\mL fs=some ns/\(ns.length<64/\PyProof.Rows.sortedS (Tab23.dI ns)=true)/\∀n I,I[n]? =some (.lst<|(Tab23.dI ns).map .str)->st1.length<=n->Gr st1 I->Q (.ref n) I):W (run (calls tab<|k+1) (.meth o "names" mN []) loc st) Q:=by refine bV<|h.mono λy st1 Z=>?_;obtain⟨m,fs,ns,rfl,J,Y,hc,q⟩:=Z;obtain⟨a,b,h1,h2,h3⟩:=J.ins;exact⟨_,_,_,50,rfl,h1,rfl,rfl,ag<|yJ J Y hc q⟩
def Vl(g:ft)(elt:Ex)(loc:Loc)(n:Nat)(p q:Key×D)(A B:Int)(d:D)(st1:aV):Prop:=d=.ref n/\st1[n]? =some (.dct [p,q])/\(∀st2,Gr (st1.set n<|.dcf [p,q]) st2->∀P:D->aV->Prop,(∀st3,Gr st2 st3->P (.int A) st3)->W (run g elt (some p.2::loc) st2) P)/\(∀st2,Gr (st1.set n<|.dcf [p,q]) st2->∀P:D->aV->Prop,(∀st3,Gr st2 st3->P (.int B) st3)->W (run g elt (some q.2::loc) st2) P)
def vm{p q:Key×D}{R:D->aV->Prop}(h:W (run g o loc st) λd st1=>Vl g elt loc n p q A B d st1/\∀m I,I[m]? =some (.lst [.int A,.int B])->Gr st1 I->R (.ref m) I):
  W ((bg (run g o loc) λd=>bg (rM d) λn=>bg (bY (λx=>bg (run g elt<|some x::loc) λy=>ret<|some y)<|.dv n) λx=>qG n x) st) R:=by
 refine aH<|h.mono λd st1 hp=>?_;obtain⟨⟨rfl,hn,hA,hB⟩,k⟩:=hp;have hlt:=(au hn).1;refine aH ?_;simp only[rM,hn];have e0:(st1.set n<|.dcf [p,q])[n]? =some (.dcf [p,q]):=cA hlt;have hL:dn (.dv n) (st1.set n<|.dcf [p,q])=2:=by simp only[dn,e0];rfl
 refine aH<|eI (L:=[p.2,q.2]) (by rw[hL];decide) (by rw[hL];exact af _) (λi acc I=>Gr (st1.set n<|.dcf [p,q]) I/\acc=[D.int A,D.int B].take i) ⟨.refl _,rfl⟩ (λi acc I hI=>?_) (λi x acc I Z hI=>?_) λacc I hI=>?_
 .simp only[iT,hI.1.at e0]
  match i with
  |0=>rfl
  |1=>rfl
  |i+2=>rfl
 .obtain⟨J,rfl⟩:=hI
  match i,Z with
  |0,Z=>cases Z;exact cY<|hA I J _ λst3 Y=>⟨J.trans Y,rfl⟩
  |1,Z=>cases Z;exact cY<|hB I J _ λst3 Y=>⟨J.trans Y,rfl⟩
 .obtain⟨J,rfl⟩:=hI;have Y:=J.more<|.lst<|[D.int A,D.int B].take [p.2,q.2].length;simp only[qG,Y.at e0];obtain⟨t,ht⟩:=Y;refine k _ _ (sn am ?_) ⟨t,?_⟩
  .have:=J.le;rw[aG] at this
   lia
  .rw[ht,bO _ _ (by rw[aG];exact hlt),List.set_set,set_same hn]
def CY{p q:Key×D}(h:W (run g o loc st) λd st1=>Vl g elt loc n p q A B d st1/\∀I,Gr st1 I->Q (.int (if B>A then B else A)) I):W (run g (.vmd o elt) loc st) Q:=by
 refine aH<|vm<|h.mono λd st1 J=>⟨J.1,λm I Y Z=>by simp only[wR,dU,Y,bind_some,im,Option.map_some];exact J.2 I Z⟩
def CW{p q:Key×D}(h:W (run g o loc st) λd st1=>Vl g elt loc n p q A B d st1/\∀I,Gr st1 I->Q (.int (if B>A then B else A)) I):W (run g (.vmx o elt) loc st) Q:=by
 refine aH<|vm<|h.mono λd st1 J=>⟨J.1,λm I Y Z=>by simp only[cK,mm,dU,Y,bind_some,im,Option.map_some];exact J.2 I Z⟩
def DW{st:aV}{n:Nat}{o:O}(h:st[n]? =some (.dct fs))(g:Gr (st.set n o) st'):Kp st st':=(zr h).trans<|iI g
end
theorem pf{k:Key}:∀{kv:List (Key×D)},(∀p∈kv,p.1≠k)->d_ kv k=none
 |[],_=>rfl
 |p::r,h=>by unfold d_;rw[if_neg<|h p<|.head _];exact pf λq I=>h q<|.tail _ I
section
variable{k m n:Nat}{st:aV}{Q:D->aV->Prop}{kv:List (Key×D)}{tk bs:List D}
def AQ{Q:Unit->aV->Prop}(I:st[n]? =some (.dct kv))(h:Q () (st.set n<|.dct [])):W (iD (.ref n) st) Q:=by simp only[iD,I];exact h
def AI{i:Int}(I:st[n]? =some (.dct kv))(h0:d_ kv (.inl i)=none)(h:Q (.bl true) st):W (bS .NotIn (.int i) (.ref n) st) Q:=by simp only[bS,bz,oP,I,uD,h0];exact h
def wb(hd:FD tk kv bs):Wv (calls tab (k+4) mr [fT tk kv bs] st) (Fp st<|.bl true):=by
 walk_at "call0"
 refine kP<|aC rfl ⟨_,rfl,rfl,?_⟩;refine a_<|bH<|ab<|aC rfl<|ag<|nN (oa hd.k.ri.i) ?_;rw[hd.k.ri.fill];have h1:(st++[O.dct kv])[st.length]? =some (.dct kv):=am;have g1:=Gr.one st<|.dct kv;generalize hh:st.length=hI at h1;generalize st++[O.dct kv]=st1 at h1 g1;refine a_<|br<|ab<|bu<|aW<|ck<|ab<|aC rfl<|ag<|jq hd.k.ri hd.b λm rs Z F2 g2=>?_;obtain⟨a2,b2,i2,_,_⟩:=F2.ins;have hl:=F2.bl.1;cases rs with
 |nil=>have:=hd.l;simp at hl;omega
 |cons r0 rs=>
  refine tK i2 4 rfl<|aN<|bJ km<|ag ?_;have h3:=aF (t:=[O.lst [D.ref r0]])<|g2.at h1;have g3:=(g1.trans g2).more<|.lst [.ref r0];have l3:(Z++[O.lst [D.ref r0]])[Z.length]? =some (.lst [.ref r0]):=am;have lt1:=(au<|g2.at h1).1;generalize h6:Z.length=n6 at l3 lt1;have lt2:n6<(Z++[O.lst [D.ref r0]]).length:=(au l3).1;generalize Z++[O.lst [D.ref r0]]=st3 at h3 g3 l3 lt2;refine a_<|eX<|ab<|aC rfl<|ab<|aC rfl<|ab<|aC rfl<|ab<|aC rfl<|ag<|xk (ts:=tk) (bs:=[.ref r0]) (kvs:=kv) rfl h3 (fw l3) λa b I i4 ja jb lt g4=>⟨rfl,?_⟩;have la:=(au ja).1;refine a_<|qz<|ab<|aC rfl<|ag ⟨⟨rfl,by decide⟩,?_⟩
  show W (execs _ _ _<|I++[O.dct [(Sum.inr "f",D.ref st3.length)]]) _;have c5:(I++[O.dct [(Sum.inr "f",D.ref st3.length)]])[I.length]? =some (.dct [(.inr "f",.ref st3.length)]):=am;refine a_<|eX<|ab<|aC rfl<|ag<|rK (fs:=[(.inr "f",.ref st3.length)]) c5 λa9 b9 Y i6 ja9 jb9 lt9 g6=>⟨rfl,?_⟩;have g7:=g4.trans<|(Gr.one I _).trans g6;have h7:=g7.at h3;have l7:=g7.at l3;have c7:=g6.at c5;have i7:=((Gr.one I _).trans g6).at i4;have ja7:=((Gr.one I _).trans g6).at ja;have e5:(I++[O.dct [(Sum.inr "f",D.ref st3.length)]]).length=I.length+1:=by simp
  rw[e5] at i6 lt9;have g8:=g3.trans g7;refine dB<|aQ<|ab<|aN<|ag<|aC rfl<|aN<|cq h7 rfl (by have:=hd.k.few;omega) ?_
  refine o_<|aC rfl<|nO (sn l7 (by omega)) ?_
  refine o_<|aC rfl<|AQ (sn (sn c7 (by omega)) (by omega)) ?_
  have G9:Gr st (((Y.set hI<|.dct<|bw kv (.inl 99) kT).set n6<|.lst []).set I.length<|.dct []):=Az (Az (Az g8 (by omega)) (by omega)) (by omega)
  have i10:(((Y.set hI<|.dct<|bw kv (.inl 99) kT).set n6<|.lst []).set I.length<|.dct [])[st3.length]? =_:=sn (sn (sn i7 (by omega)) (by omega)) (by omega)
  have ja10:(((Y.set hI<|.dct<|bw kv (.inl 99) kT).set n6<|.lst []).set I.length<|.dct [])[a]? =_:=sn (sn (sn ja7 (by omega)) (by omega)) (by omega)
  have C10:CdAt (((Y.set hI<|.dct<|bw kv (.inl 99) kT).set n6<|.lst []).set I.length<|.dct []) (I.length+1) [(.inr "f",.ref st3.length)]:=⟨a9,b9,sn (sn (sn i6 (by omega)) (by lia)) (by lia),sn (sn (sn ja9 (by lia)) (by lia)) (by lia),sn (sn (sn jb9 (by lia)) (by lia)) (by lia)⟩
  rw[e5];generalize ((Y.set hI<|.dct<|bw kv (.inl 99) kT).set n6<|.lst []).set I.length (.dct [])=st10 at G9 i10 ja10 C10;refine o_<|iX<|aC rfl ⟨_,_,["f"],rfl,C10,rfl,by decide+kernel,λn11 st11 a11 l11 g11=>nO a11 ?_⟩
  have J:Gr st10 (st11.set n11<|.lst []):=Az g11 l11;generalize st11.set n11 (.lst [])=st12 at J;refine bo<|w_and<|bn<|aN<|aW<|aC rfl<|tK (J.at i10) 2 rfl<|AI (J.at ja10) (pf λp hp e=>?_) ⟨_,rfl,λ_=>?_,nofun⟩
  .have:=hd.k.le 99 (mem_map.mpr ⟨p,hp,by rw[e];rfl⟩)
   lia
  refine w_and<|bn<|bH<|ab<|aW<|aC rfl<|tK (J.at i10) 4 rfl<|ag<|iq<|aN<|jO ⟨_,rfl,λ_=>?_,λh=>nomatch h⟩;exact bn<|iX<|aC rfl ⟨_,_,["f"],rfl,C10.gr J,rfl,by decide+kernel,λn13 st13 a13 _ g13=>br<|ab<|aN<|ag<|w_eq (ez (m:=0) (aF a13) am<|bh cv bP)<|bi ⟨rfl,G9.trans<|J.trans<|g13.more _⟩⟩
end
structure NM(n1 n2:Str):Prop where
 ne:n1≠n2
 w1:n1≠ "new"
 w2:n2≠ "new"
 s2:PyProof.Rows.sortedS (Tab23.dI [n1,n2])=true
 s3:PyProof.Rows.sortedS (Tab23.dI [n1,n2,"new"])=true
 ord:Tab23.dI [n1,n2]=if PySem.W.fE n1 n2 then [n1,n2] else [n2,n1]
 le:PySem.W.fE n1 n2= !PySem.W.fE n2 n1
noncomputable def uN(n1 n2:Str)(t1 t2:D):D:= .tup (if PySem.W.fE n1 n2 then [.tup [.str n1,t1],.tup [.str n2,t2]] else [.tup [.str n2,t2],.tup [.str n1,t1]])
def Cz(h1:Sm m t1)(h:Sm m t2):Sm (m+2) (uN n1 n2 t1 t2):=by
 unfold uN;split
 .exact .tup<|all2 (.tup<|all2 cv h1)<|.tup<|all2 cv h
 .exact .tup<|all2 (.tup<|all2 cv h)<|.tup<|all2 cv h1
noncomputable def DK(n1:Str)(t1 t2:D):D->D
 | .str s=>.tup [.str s,if s=n1 then t1 else t2]
 |d=>d
noncomputable abbrev two(n1 n2:Str)(m1 m2:Nat):List (Key×D):=[(.inr n1,.ref m1),(.inr n2,.ref m2)]
def t4:d_ (two n1 n2 m1 m2) (.inr n1)=some (.ref m1):=if_pos rfl
def Db(h:n1≠n2):d_ (two n1 n2 m1 m2) (.inr n2)=some (.ref m2):=(if_neg λe=>h<|Sum.inr.inj e).trans<|if_pos rfl
section
variable{k m m1 m2:Nat}{st:aV}{Q:D->aV->Prop}{n1 n2:Str}{fs kv kv':List (Key×D)}{tk bs tk' bs':List D}{rs rs':List Nat}
def sy{s:Str}(J:CdAt st m fs)(I:d_ fs (.inr s)=some d)(h:Q d st):Wv (calls tab (k+1) gj [.ref m,.str s] st) Q:=by
 obtain⟨a,b,h1,Z,Y⟩:=J.ins
 walk_at "call0"
 exact bo<|bu<|aW<|aC rfl<|AB h1 1 rfl<|aC rfl<|kW Y I<|bi<|h
def sB(N:NM n1 n2)(hc:CdAt st m (two n1 n2 m1 m2))(F1:FnAt st m1 tk kN kv rs bs)(d1:FD tk kv bs)(F2:FnAt st m2 tk' kN kv' rs' bs')(d2:FD tk' kv' bs'):Wv (calls tab (k+4) pY [.ref m] st) (Fp st<|uN n1 n2 (fT tk kv bs)<|fT tk' kv' bs'):=by
 walk_at "call0"
 have one:∀{s:Str}{h:aV},Gr st h->(s=n1\/s=n2)->W ((bg (run (calls tab<|k+3) (.tup [.v 0,.meth (.meth (.v 1) "function_named" [("Code",52)] [.v 0]) "told" mT []]) [some<|.str s,some<|.ref m]) λy=>ret<|some y) h) λo J=>o=some (DK n1 (fT tk kv bs) (fT tk' kv' bs')<|.str s)/\Gr h J:=λ{s h} I hs=>by
  obtain⟨a,b,i1,_,_⟩:=(hc.gr I).ins;refine cY<|aQ<|ab<|aC rfl<|ab<|bV<|bV<|aC rfl ⟨_,_,_,52,rfl,i1,rfl,rfl,ab<|aC rfl<|ag ?_⟩;rcases hs with rfl|rfl
  .obtain⟨a,b,i2,_,_⟩:=(F1.gr I).ins;refine sy (hc.gr I) t4 ⟨_,_,_,46,rfl,i2,rfl,rfl,ag ?_⟩;refine Wv.mono (e7 d1.k.ri (lt_of_le_of_lt d1.k.few (by decide)) d1.b.2<|F1.gr I) λy J q=>?_
   obtain⟨rfl,g3⟩:=q;refine ag ⟨?_,g3⟩;show _=some (D.tup [.str s,if s=s then _ else _])
   rw[if_pos rfl]
  .obtain⟨a,b,i2,_,_⟩:=(F2.gr I).ins;refine sy (hc.gr I) (Db N.ne) ⟨_,_,_,46,rfl,i2,rfl,rfl,ag ?_⟩;refine Wv.mono (e7 d2.k.ri (lt_of_le_of_lt d2.k.few (by decide)) d2.b.2<|F2.gr I) λy J q=>?_
   obtain⟨rfl,g3⟩:=q;refine ag ⟨?_,g3⟩;show _=some (D.tup [.str s,if s=n1 then _ else _])
   rw[if_neg<|Ne.symm N.ne]
 have e1:DK n1 (fT tk kv bs) (fT tk' kv' bs') (.str n1)=.tup [.str n1,fT tk kv bs]:=by
  show D.tup [.str n1,if n1=n1 then _ else _]=_
  rw[if_pos rfl]
 have e2:DK n1 (fT tk kv bs) (fT tk' kv' bs') (.str n2)=.tup [.str n2,fT tk' kv' bs']:=by
  show D.tup [.str n2,if n2=n1 then _ else _]=_
  rw[if_neg<|Ne.symm N.ne]
 refine bo<|bH<|ab<|dH<|iX<|aC rfl ⟨_,_,[n1,n2],rfl,hc,rfl,⟨by simp,N.s2⟩,λn st1 Z _ Y=>⟨_,rfl,?_⟩⟩
 rw[N.ord] at Z;unfold uN;cases hle:PySem.W.fE n1 n2 with
 |true=>
  rw[hle] at Z;refine qw (F:=DK n1 (fT tk kv bs)<|fT tk' kv' bs') Z (by simp) (all2 (λh I=>one (Y.trans I)<|.inl rfl) λh I=>one (Y.trans I)<|.inr rfl) λh I=>ag<|bU am<|bi ⟨?_,Y.trans<|I.more _⟩
  show D.tup [_,_]=_;rw[e1,e2];rfl
 |false=>
  rw[hle] at Z;refine qw (F:=DK n1 (fT tk kv bs)<|fT tk' kv' bs') Z (by simp) (all2 (λh I=>one (Y.trans I)<|.inr rfl) λh I=>one (Y.trans I)<|.inl rfl) λh I=>ag<|bU am<|bi ⟨?_,Y.trans<|I.more _⟩
  show D.tup [_,_]=_;rw[e1,e2];rfl
def yj{fs:List (Key×D)}{h:aV}(Z:st[n]? =some (.dct fs))(g2:Gr (st.set n o) h)(J:nI bs)(F:FnAt st m tk kN kv rs bs)(Y:∀I,Gr h I->Q (.int (bs.map As).sum) I):W (run (calls tab<|k+1) (.meth (.v 0) "width" mW []) (some (.ref m)::loc) h) Q:=by obtain⟨⟨t,g,a,b,i⟩,B⟩:=F.fi;have K:=DW Z g2;exact bV<|aC rfl ⟨_,_,_,47,rfl,K _ _ _ i,rfl,rfl,ag<|sx J ⟨⟨t,g,a,b,K _ _ _ i⟩,B.kp K⟩ Y⟩
def wa(hc:CdAt st m (two n1 n2 m1 m2))(F1:FnAt st m1 tk kN kv rs bs)(d1:FD tk kv bs)(F2:FnAt st m2 tk' kN kv' rs' bs')(d2:FD tk' kv' bs')(h:∀st1,Gr st st1->Q (.int (if(bs'.map As).sum>(bs.map As).sum then(bs'.map As).sum else(bs.map As).sum)) st1):Wv (calls tab (k+2) oH [.ref m] st) Q:=by
 obtain⟨a,b,h1,h2,Z⟩:=hc.ins
 walk_at "call0"
 exact bo<|CY<|aW<|aC rfl<|AB h1 1 rfl ⟨⟨rfl,Z,λI J P Y=>yj Z J d1.b F1 Y,λI J P Y=>yj Z J d2.b F2 Y⟩,λI J=>bi<|h I J⟩
def vY{s:Str}{f:Nat}(Y:CdAt st m fs)(hl:fs.length<1000)(h:∀m' st1,CdAt st1 m' (bw fs (.inr s)<|.ref f)->Gr st st1->Q (.ref m') st1):Wv (calls tab (k+2) gJ [.ref m,.str s,.ref f] st) Q:=by
 obtain⟨a,b,h1,h2,Z⟩:=Y.ins
 walk_at "call0"
 refine a_<|bH<|ab<|aW<|aC rfl<|AB h1 1 rfl<|ag<|fu Z ?_;refine dB<|aC rfl<|aC rfl<|aC rfl<|cq am rfl (by lia) ?_
 rw[bN];exact bo<|eX<|ab<|aC rfl<|ag<|rK am λa b st1 i1 J I _ g1=>⟨rfl,bi<|h _ _ ⟨a,b,i1,J,I⟩<|(Gr.one _ _).trans g1⟩
end
def GX:NM "main" "f":=by constructor<;>decide+kernel
def GW:NM "f" "main":=by constructor<;>decide+kernel
def GV:NM "f" "apple":=by constructor<;>decide+kernel
def GU:NM "b" "ba":=by constructor<;>decide+kernel
def zX{ns:List Int}:∃cs:List Int,cutD (ns.map .int) lo hi=cs.map .int/\cs.length<=ns.length:=by
 unfold cutD;refine⟨(ns.drop _).take _,by rw[map_take,map_drop],?_⟩
 rw[length_take,length_drop]
 lia
noncomputable def eL:Ex:= .lst [.tup [.ix (.v 6)<|.c<|.int 0,.v 4],.tup [.ix (.v 6)<|.c<|.int 1,.v 5]]
section
variable{k l:Nat}{st:aV}{Q:D->aV->Prop}{g:ft}{loc:Loc}{a b c d:Ex}{n1 n2:Str}{t1 t2:D}
def yH(J:Lf st l)(h:∀w st1,Lf st1 l->Q (.int w) st1):Wv (calls tab (k+1) jU [.ref l] st) Q:=by
 obtain⟨ns,e⟩:=J
 walk_at "call0"
 refine eE<|bn<|aC rfl<|br<|ag<|w_eq (lS (aF e) am) ⟨_,rfl,λI=>?_,λI=>?_⟩
 .exact bo<|aN<|cI<|bi<|h 0 _ ⟨ns,aF e⟩
 .refine aR<|bv<|bo<|vt<|aC rfl ?_;cases ns with
  |nil=>cases I
  |cons x ns=>exact⟨_,_,_,rfl,aF e,bi<|h x _ ⟨ns,cA (au<|aF e).1⟩⟩
def AL{Y:Nat}{pre post:List S}{ds:List D}(h:W (execs g pre (ds.map some++replicate (Y - ds.length) none) st) λr st1=>∃loc,r=.nx loc/\W (run g a loc st1) λx J=>W (mS x J) λd I=>W (execs g post (loc.set i<|some d) I)<|Kr Q):Wv (wW g Y pre a i post ds st) Q:=by
 refine aH<|h.mono λr st1 hp=>?_;obtain⟨loc,rfl,q⟩:=hp;refine aH<|q.mono λx J q=>aH<|q.mono λd I q=>aH<|q.mono λr Z q=>?_;cases r with
 |ex _ _=>exact q.elim
 |_=>exact q
def ym(h:W (run g a loc st) λk1 st1=>W (run g b loc st1) λv1 Y=>W (run g c loc Y) λk2 J=>W (run g d loc J) λv2 I=>W (qf k1 v1 k2 v2 I) Q):W (run g (.dict2 a b c d) loc st) Q:=by exact aH<|h.mono λ_ _ q=>aH<|q.mono λ_ _ q=>aH<|q.mono λ_ _ q=>aH<|q.mono λ_ _ q=>q
def yk(I:n1≠n2)(h:Q (.ref st.length) (st++[.dct [(.inr n1,t1),(.inr n2,t2)]])):W (qf (.str n1) t1 (.str n2) t2 st) Q:=by simp only[qf];rw[if_pos I];exact h
def AF(I:st[n]? =some (.lst [.tup [.str n1,t1],.tup [.str n2,t2]]))(J:PySem.W.fE n1 n2= !PySem.W.fE n2 n1)(h:Q (uN n1 n2 t1 t2) st):W (mS (.ref n) st) Q:=by simp only[mS,I,lP];rw[if_pos J];exact h
end
section
variable{k q m m1 m2:Nat}{st:aV}{n1 n2:Str}{kv kv':List (Key×D)}{tk bs tk' bs':List D}{rs rs':List Nat}
def A_{x0 x1 x3:Option D}(N:NM n1 n2)(a6:st[q]? =some (.lst [.str n1,.str n2]))(Y:CdAt st m (two n1 n2 m1 m2))(F1:FnAt st m1 tk kN kv rs bs)(I:FD tk kv bs)(F2:FnAt st m2 tk' kN kv' rs' bs')(h:FD tk' kv' bs'):
  W (execs (calls tab<|k+5) uz [x0,x1,x2,x3,some<|fT tk kv bs,some<|fT tk' kv' bs',some<|.ref q,some<|.ref m,some<|uN n1 n2 (fT tk kv bs)<|fT tk' kv' bs',none,none] st) (Kr λd _=>d=.bl true):=by
 have sm1:=nR I.t I.k.sn I.b;have sm2:=nR h.t h.k.sn h.b;have smd:=Cz (n1:=n1) (n2:=n2) sm1 sm2;unfold uz;obtain⟨ca,cb,i0,ja,jb⟩:=Y.ins;refine ie<|dD<|bn<|bV<|aC rfl ⟨_,_,_,49,rfl,i0,rfl,rfl,ag ?_⟩;refine Wv.mono (sB (k:=k+1) N Y F1 I F2 h) λy st1 q1=>?_;obtain⟨rfl,g1⟩:=q1;refine aC rfl<|gn smd (by decide) ⟨rfl,?_⟩
 refine dD<|bn<|iX<|aC rfl ⟨_,_,[n1,n2],rfl,Y.gr g1,rfl,⟨by simp,N.s2⟩,λn J a2 _ g2=>?_⟩
 refine bH<|ab<|aC rfl<|ag<|vo ((g1.trans g2).at a6) (ns:=[n1,n2]) rfl ⟨by simp,N.s2⟩<|j6 (ez (m:=0) (aF a2) am λx hx=>?_) ⟨rfl,?_⟩
 .obtain⟨s,_,rfl⟩:=mem_map.mp hx;exact cv
 have g3:=(g1.trans g2).more (.lst<|(Tab23.dI [n1,n2]).map .str);generalize J++[O.lst<|(Tab23.dI [n1,n2]).map .str]=st3 at g3;refine w_not<|ck<|ab<|aC rfl<|ag ?_;refine Wv.mono (wb (k:=k+1) I) λy st4 q4=>?_;obtain⟨rfl,g4⟩:=q4;have g5:=g3.trans g4;refine⟨_,rfl,rfl,?_⟩;refine ie<|bn<|bV<|aC rfl ⟨_,_,_,51,rfl,g5.at i0,rfl,rfl,ag<|wa (k:=k+3) (Y.gr g5) (F1.gr g5) I (F2.gr g5) h λst6 g6=>?_⟩;have Z:=g5.trans g6;refine CW<|aW<|aC rfl<|AB (Z.at i0) 0 rfl ⟨⟨rfl,Z.at ja,λJ g2 P hP=>yj (k:=k+4) (Z.at ja) g2 I.b (F1.gr Z) hP,λJ g2 P hP=>yj (k:=k+4) (Z.at ja) g2 h.b (F2.gr Z) hP⟩,λst8 g8=>gn (m:=0) eO (by decide) ⟨rfl,?_⟩⟩
 have g9:=Z.trans g8;refine a_<|bV<|aC rfl ⟨_,_,_,53,rfl,g9.at i0,rfl,rfl,?_⟩;refine ab<|bu<|aC rfl<|aN<|eY (g9.at a6) km<|ab<|ck<|ab<|aC rfl<|ag<|jq (k:=k+2) h.k.ri h.b λm3 rs3 st10 F3 g10=>ag ?_;have gA:=g9.trans g10;refine vY (k:=k+3) (Y.gr gA) (by simp) λm9 st11 C9 g11=>?_
 have e1:bw (two n1 n2 m1 m2) (.inr n1) (.ref m3)=two n1 n2 m3 m2:=by
  unfold bw;rw[if_pos (by simp),map_cons,map_cons,if_pos rfl,if_neg λe=>N.ne (Sum.inr.inj e).symm]
  rfl
 rw[e1] at C9;have gB:=gA.trans g11;obtain⟨c3,d3,i9,j9,_⟩:=C9.ins;refine ie<|dD<|w_not<|r_<|aC rfl ⟨_,_,_,rfl,i9,.head _,_,rfl,rfl,?_⟩;obtain⟨u3,v3,i3,_,_⟩:=(F3.gr g11).ins;refine dD<|bn<|bV<|bu<|aW<|aC rfl<|AB i9 0 rfl<|bu<|aC rfl<|aN<|eY (gB.at a6) km<|kW j9 t4 ⟨_,_,_,46,rfl,i3,rfl,rfl,ag ?_⟩;refine Wv.mono (e7 (k:=k+2) h.k.ri (lt_of_le_of_lt h.k.few (by decide)) h.b.2<|F3.gr g11) λy st12 q12=>?_
 obtain⟨rfl,g12⟩:=q12;refine aC rfl<|gn sm2 (by decide) ⟨rfl,?_⟩
 have gC:=gB.trans g12;refine bn<|bV<|aC rfl ⟨_,_,_,49,rfl,gC.at i0,rfl,rfl,ag ?_⟩;refine Wv.mono (sB (k:=k+1) N (Y.gr gC) (F1.gr gC) I (F2.gr gC) h) λy st13 q13=>?_;obtain⟨rfl,g13⟩:=q13;refine aC rfl<|gn smd (by decide) ⟨rfl,?_⟩
 have gD:=gC.trans g13;refine a_<|bV<|aC rfl ⟨_,_,_,53,rfl,gD.at i0,rfl,rfl,?_⟩;refine ab<|aN<|ab<|ck<|ab<|aC rfl<|ag<|jq (k:=k+2) I.k.ri I.b λm5 rs5 st14 F5 g14=>ag ?_;have gE:=gD.trans g14;refine vY (k:=k+3) (Y.gr gE) (by simp) λm10 st15 C10 g15=>?_
 have gF:=gE.trans g15
 have e2:bw (two n1 n2 m1 m2) (.inr "new") (.ref m5)=[(.inr n1,.ref m1),(.inr n2,.ref m2),(.inr "new",.ref m5)]:=sF λp hp e=>by
  rcases mem_cons.mp hp with rfl|hp
  .exact N.w1<|Sum.inr.inj e
  .rcases mem_cons.mp hp with rfl|hp
   .exact N.w2<|Sum.inr.inj e
   .cases hp
 rw[e2] at C10;have gG:=(g12.trans g13).trans (g14.trans g15);obtain⟨u4,v4,i4,_,_⟩:=(F2.gr gF).ins;refine bo<|w_and<|bn<|bV<|bu<|aW<|aC rfl<|AB (gG.at i9) 0 rfl<|bu<|aC rfl<|aN<|eY (gF.at a6) rfl<|kW (gG.at j9) (Db N.ne) ⟨_,_,_,46,rfl,i4,rfl,rfl,ag ?_⟩;refine Wv.mono (e7 (k:=k+2) h.k.ri (lt_of_le_of_lt h.k.few (by decide)) h.b.2<|F2.gr gF) λy st16 q16=>?_
 obtain⟨rfl,g16⟩:=q16;refine aC rfl<|w_eq (sm2.eq) ⟨_,rfl,λ_=>?_,nofun⟩;refine bn<|iX<|aC rfl ⟨_,_,[n1,n2,"new"],rfl,C10.gr g16,rfl,⟨by simp,N.s3⟩,λn st17 a17 _ g17=>?_⟩
 refine bH<|ab<|aZ<|aC rfl<|br<|ab<|aN<|ag<|cZ (aF<|(gF.trans<|g16.trans g17).at a6) am (by simp)<|ag<|vo am (ns:=[n1,n2,"new"]) rfl ⟨by simp,N.s3⟩<|w_eq (ez (m:=0) (aF<|aF<|aF a17) am λx hx=>?_)<|bi rfl
 obtain⟨s,_,rfl⟩:=mem_map.mp hx;exact cv
end
def Dy{k:Nat}(ns:List Int)(hn:ns.length<=63):∃st',wW (calls tab<|k+5) 11 wX eL 8 uz [.fl<|ns.map .int] []=.ok (.v<|.bl true) st':=by
 have H:Wv (wW (calls tab<|k+5) 11 wX eL 8 uz [.fl<|ns.map .int] []) λd _=>d=.bl true:=by
  refine AL ?_;dsimp only[wX,map_cons,map_nil,cons_append,nil_append,length_cons,length_nil,replicate,Nat.reduceAdd,Nat.reduceSub];obtain⟨cs,ec,hcl⟩:=zX (ns:=ns) (lo:=none) (hi:=some 62);refine a_<|ck<|ab<|ip<|aC rfl<|aN ⟨_,rfl,CZ ?_⟩;rw[ec];refine ab<|aN<|ag<|ud (k:=k+3) am (by lia) λl st1 hl g1=>?_
  refine a_<|ck<|ab<|aC rfl<|ag<|yH (k:=k+4) hl λw st2 hl2=>?_;refine a_<|qz<|ab<|aN<|ab<|bu<|br<|ab<|aN<|ab<|aZ<|aN<|aZ<|aZ<|aC rfl<|aN<|cQ (by decide)<|aN<|w_mod (by decide)<|w_add<|ag<|aZ<|aC rfl<|aN<|w_mod (by decide)<|dh am (by decide) (by simp) λx hx=>ag ⟨⟨rfl,by decide+kernel⟩,?_⟩
  have J:∃i:Int,x=.int i:=(bh (P:=λx=>∃i:Int,x=.int i) ⟨_,rfl⟩<|bh ⟨_,rfl⟩ bP) x hx;obtain⟨i,rfl⟩:=J;have hl3:=hl2.gr<|.one st2<|.lst [.int 0,.int<|1+w / 2 % 90];generalize st2++[O.lst [D.int 0,D.int<|1+w / 2 % 90]]=st3 at hl3;show W (execs _ _ _<|st3++[cO 0 i]) _;refine a_<|ck<|ab<|aC rfl<|ab<|aC rfl<|ag<|lh (hl3.gr<|.one _ _) ⟨0,i,am⟩ λtk kv bs st5 h1 h2 h3 h4 h5 hl5 _=>?_;have Y:FD tk kv bs:=⟨h1,h2,h3,h4,h5⟩;refine a_<|ck<|ab<|aC rfl<|ab<|qz<|ab<|aN<|ab<|aN<|ag ⟨⟨rfl,by decide+kernel⟩,?_⟩
  show W (runs _ [] _<|st5++[cO 0 0]) _;refine ag<|lh (hl5.gr<|.one _ _) ⟨0,0,am⟩ λtk' kv' bs' st7 h1 h2 h3 h4 h5 h od7=>?_;have d2:FD tk' kv' bs':=⟨h1,h2,h3,h4,h5⟩;generalize st5.length=s at od7;refine a_<|bu<|br<|ab<|br<|ab<|aN<|ab<|aN<|ag<|ab<|br<|ab<|aN<|ab<|aN<|ag<|ab<|br<|ab<|aN<|ab<|aN<|ag<|ab<|br<|ab<|aN<|ab<|aN<|ag<|ag ?_;have G1:=Gr.one st7<|.lst [.str "main",.str "f"];have G2:=G1.more<|.lst [.str "f",.str "main"];have G3:=G2.more<|.lst [.str "f",.str "apple"];have G4:=G3.more<|.lst [.str "b",.str "ba"];have nn0:=b0 h od7;have nn1:=b0 (h.gr G1)<|od7.gr G1;have nn2:=b0 (h.gr G2)<|od7.gr G2;have nn3:=b0 (h.gr G3)<|od7.gr G3;have nn4:=b0 (h.gr G4)<|od7.gr G4;refine aZ<|ck<|ab<|aC rfl<|ag<|dJ (k:=k+4) (h.gr<|G4.more _) (od7.gr<|G4.more _) λw Z D8=>aN<|w_mod (by decide)<|dh (D8.at am nn4.1 nn4.2) (by decide) (by simp) λx hx=>?_
  have J:∃q n1 n2,x=.ref q/\Z[q]? =some (.lst [.str n1,.str n2])/\NM n1 n2:=(bh (P:=λx=>∃q n1 n2,x=.ref q/\Z[q]? =some (.lst [.str n1,.str n2])/\NM n1 n2) ⟨_,_,_,rfl,D8.at (aF<|aF<|aF<|aF am) nn0.1 nn0.2,GX⟩<|bh ⟨_,_,_,rfl,D8.at (aF<|aF<|aF am) nn1.1 nn1.2,GW⟩<|bh ⟨_,_,_,rfl,D8.at (aF<|aF am) nn2.1 nn2.2,GV⟩<|bh ⟨_,_,_,rfl,D8.at (aF am) nn3.1 nn3.2,GU⟩ bP) x hx;obtain⟨q6,n1,n2,rfl,a6,N⟩:=J;refine a_<|eX<|ab<|ym<|bu<|aC rfl<|aN<|eY a6 km<|ck<|ab<|aC rfl<|ag<|jq (k:=k+2) Y.k.ri Y.b λm1 rs1 st9 F1 g9=>?_;refine bu<|aC rfl<|aN<|eY (g9.at a6) rfl<|ck<|ab<|aC rfl<|ag<|jq (k:=k+2) d2.k.ri d2.b λm2 rs2 I F2 g10=>yk N.ne ?_;refine ag<|rK am λa b st11 i11 j1 j2 _ g11=>⟨rfl,?_⟩;have ga:=(Gr.one I<|.dct<|two n1 n2 m1 m2).trans g11;have gb:=g10.trans ga;have gc:=g9.trans gb;have C:CdAt st11 (I++[O.dct<|two n1 n2 m1 m2]).length (two n1 n2 m1 m2):=⟨a,b,i11,j1,j2⟩;generalize (I++[O.dct<|two n1 n2 m1 m2]).length=m at C;refine ie<|dD<|w_not<|ck<|ab<|ck<|ab<|aC rfl<|ag<|jq (k:=k+2) Y.k.ri Y.b λm5 rs5 st12 F5 g12=>?_;refine ab<|aC rfl<|ag ?_;refine Wv.mono (pA (k:=k) Y F5) λy st13 q=>?_;obtain⟨rfl,g13⟩:=q;refine⟨_,rfl,rfl,?_⟩;have gd:=g12.trans g13;obtain⟨ca,cb,i0,ja,jb⟩:=(C.gr gd).ins;refine w_not<|ck<|ab<|bu<|aW<|aC rfl<|AB i0 0 rfl<|bu<|aC rfl<|aN<|eY ((gc.trans gd).at a6) km<|kW ja t4<|ab<|aC rfl<|ag ?_;refine Wv.mono (pA (k:=k) Y<|F1.gr<|gb.trans gd) λy st14 q=>?_;obtain⟨rfl,g14⟩:=q;refine⟨_,rfl,rfl,aR ⟨_,rfl,?_⟩⟩;have ge:=gd.trans g14;have a7:=(gc.trans ge).at a6;refine br<|ab<|aQ<|ab<|bu<|aC rfl<|aN<|eY a7 km<|ab<|aC rfl<|ag<|ab<|aQ<|ab<|bu<|aC rfl<|aN<|eY a7 rfl<|ab<|aC rfl<|ag<|ag<|AF am N.le ?_;have gf:=ge.more<|.lst [.tup [.str n1,fT tk kv bs],.tup [.str n2,fT tk' kv' bs']];exact A_ N ((gc.trans gf).at a6) (C.gr gf) (F1.gr<|gb.trans gf) Y (F2.gr<|ga.trans gf) d2
 obtain⟨r,st',e,q⟩:=W.get H;cases r with
 |v d=>have:d=.bl true:=q;subst this;exact⟨st',e⟩
 |x n=>exact q.elim
end K20
open L2
namespace K20
noncomputable def top(i:Nat):Stmt:=PySem.Challenge.pw_eachstepsame_k20_forms_told.main.body.getD i<|.Pass ⟨0,0,0,0⟩
def meth(i j:Nat):Stmt:=match top i with| .ClassDef _ _ _ body _ _ _ _ _ _ _=>body.getD j (.Pass ⟨0,0,0,0⟩)|s=>s
noncomputable def names:List Str:=(["_law_mixed","_law_numbers","_law_take","_law_odd","_law_operand","_law_row_kinds","_law_drawn_row","_law_edge","_law_end","_law_backward","_law_function","_law_made_end","_law_made","_law_edges","_law_reads","_law_end_right","_law_block_right","_law_function_right","_law_copies","law"]:List Str)++([]:List Str)
noncomputable def csts:List (Str×D):=[]
def T:Tab:=⟨names,csts,true,[⟨"Row",["name","op","extra","operands"],[("told",21)]⟩,⟨"Jump",["edge"],[("edges",27),("every_read",24),("reads",23),("told",26)]⟩,⟨"Branch",["test","yes","no"],[("edges",30),("every_read",24),("reads",31),("told",29)]⟩,⟨"Back",["operand"],[("edges",22),("every_read",24),("reads",34),("told",33)]⟩,⟨"Raise",["fault"],[("edges",22),("every_read",24),("reads",23),("told",36)]⟩,⟨"Risk",["op","extra","asked","edge","catches"],[("edges",39),("every_read",24),("reads",40),("told",38)]⟩,⟨"Block",["params","rows","end"],[("given",43),("ticks",44),("told",42)]⟩,⟨"Function",["takes","gives","kinds","kept_kinds","blocks"],[("told",46),("width",47)]⟩,⟨"Code",["functions","kept_functions"],[("function_named",52),("names",50),("told",49),("width",51),("with_function",53)]⟩],[("Row",20),("Jump",25),("Branch",28),("Back",32),("Raise",35),("Risk",37),("Block",41),("Function",45),("Code",48)],[("Row","Row"),("End","Jump"),("End","Branch"),("End","Back"),("End","Raise"),("End","Risk"),("Code","Code")]⟩
def R1(x:Str)(ps more:List Str)(i:Nat)(f:Fn):Rec:=⟨x,x,x,ps,ps++more,top i,f⟩
def R2(m q:Str)(ps more:List Str)(i j:Nat)(f:Fn):Rec:=⟨q,m,q,ps,ps++more,meth i j,f⟩
def bx:List Rec:=[R1 "_law_mixed" ["_law_cell","_law_k"] ["_law_number"] 14 fI,R1 "_law_numbers" ["_law_cells","_law_many"] ["_law_found","_law_cell","_law_left","_law_k"] 15 eh,R1 "_law_take" ["_law_left"] [] 16 gK,R1 "_law_odd" ["_law_state"] [] 17 iz,R1 "_law_operand" ["_law_left","_law_state","_law_seen","_law_kind"] ["_law_way","_law_some"] 18 eg,R1 "_law_row_kinds" ["_law_way","_law_seen"] ["_law_num","_law_truth","_law_pair","_law_some"] 19 dq,R1 "_law_drawn_row" ["_law_left","_law_state","_law_seen","_law_kinds"] ["_law_way","_law_op","_law_extra","_law_takes","_law_gives","_law_operands","_law_some","_law_name"] 20 dw,R1 "_law_edge" ["_law_left","_law_state","_law_seen","_law_params","_law_number","_law_skip"] ["_law_wanted","_law_args"] 21 gM,R1 "_law_end" ["_law_left","_law_state","_law_seen","_law_params","_law_here"] ["_law_way","_law_many","_law_next_one","_law_other","_law_first","_law_test","_law_catches","_law_wanted_of","_law_edge_here","_law_name"] 22 iA,R1 "_law_backward" ["_law_end_here","_law_here"] ["_law_found"] 23 dP,R1 "_law_function" ["_law_left","_law_state"] ["_law_many","_law_kinds","_law_params","_law_k","_law_takes","_law_number","_law_way","_law_kind","_law_blocks","_law_entry","_law_seen","_law_name","_law_rows","_law_end_here"] 24 dO,R1 "_law_made_end" ["_law_end_here"] [] 25 dN,R1 "_law_made" ["_law_told"] ["_law_takes","_law_gives","_law_kinds","_law_blocks","_law_found","_law_params","_law_rows","_law_end_here","_law_some"] 26 gL,R1 "_law_edges" ["_law_end_here"] [] 27 fJ,R1 "_law_reads" ["_law_end_here"] [] 28 fH,R1 "_law_end_right" ["_law_end_here","_law_told"] ["_law_edges_here","_law_reads_here","_law_every","_law_edge_here","_law_with_result","_law_found"] 29 du,R1 "_law_block_right" ["_law_block","_law_told"] ["_law_params","_law_rows","_law_end_here","_law_row","_law_due","_law_found"] 30 cR,R1 "_law_function_right" ["_law_function_here","_law_told"] ["_law_takes","_law_gives","_law_kinds","_law_blocks","_law_block","_law_due"] 31 cB,R1 "_law_copies" ["_law_told"] ["_law_takes","_law_gives","_law_kinds","_law_blocks","_law_handed","_law_some","_law_function_here","_law_functions","_law_code"] 32 eQ,R1 "law" ["_law_script"] ["_law_left","_law_at","_law_state","_law_one","_law_other","_law_names","_law_code","_law_due","_law_again","_law_more"] 33 tM,R2 "__init__" "Row.__init__" ["self","name","op","extra","operands"] [] 2 0 iC,R2 "told" "Row.told" ["self"] [] 2 1 iB,R2 "edges" "End.edges" ["self"] [] 3 0 gT,R2 "reads" "End.reads" ["self"] [] 3 2 gS,R2 "every_read" "End.every_read" ["self"] ["found","edge","handed"] 3 3 dA,R2 "__init__" "Jump.__init__" ["self","edge"] [] 4 0 gR,R2 "told" "Jump.told" ["self"] [] 4 1 gQ,R2 "edges" "Jump.edges" ["self"] [] 4 3 fO,R2 "__init__" "Branch.__init__" ["self","test","yes","no"] [] 5 0 eS,R2 "told" "Branch.told" ["self"] [] 5 1 eR,R2 "edges" "Branch.edges" ["self"] [] 5 3 eu,R2 "reads" "Branch.reads" ["self"] [] 5 5 et,R2 "__init__" "Back.__init__" ["self","operand"] [] 6 0 gX,R2 "told" "Back.told" ["self"] [] 6 1 gW,R2 "reads" "Back.reads" ["self"] [] 6 3 fU,R2 "__init__" "Raise.__init__" ["self","fault"] [] 7 0 fN,R2 "told" "Raise.told" ["self"] [] 7 1 fM,R2 "__init__" "Risk.__init__" ["self","op","extra","asked","edge","catches"] [] 8 0 gP,R2 "told" "Risk.told" ["self"] [] 8 1 gN,R2 "edges" "Risk.edges" ["self"] [] 8 3 fL,R2 "reads" "Risk.reads" ["self"] [] 8 5 fK,R2 "__init__" "Block.__init__" ["self","params","rows","end"] [] 9 0 fS,R2 "told" "Block.told" ["self"] [] 9 1 fR,R2 "given" "Block.given" ["self"] [] 9 2 eU,R2 "ticks" "Block.ticks" ["self"] [] 9 3 eT,R2 "__init__" "Function.__init__" ["self","takes","gives","kinds","blocks"] [] 10 0 dR,R2 "told" "Function.told" ["self"] ["kinds"] 10 1 dQ,R2 "width" "Function.width" ["self"] [] 10 2 dz,R2 "__init__" "Code.__init__" ["self","functions"] [] 11 0 gV,R2 "told" "Code.told" ["self"] [] 11 1 gU,R2 "names" "Code.names" ["self"] [] 11 2 fQ,R2 "width" "Code.width" ["self"] [] 11 3 fP,R2 "function_named" "Code.function_named" ["self","name"] [] 11 4 cC,R2 "with_function" "Code.with_function" ["self","name","function"] ["functions"] 11 5 cJ]
noncomputable def ad:List Addr:=[478,485,492,499,504,511,516,521,526,531,536,543,548,553,560,567,572,577,584,589,35,42,70,84,91,112,119,133,159,166,180,194,213,220,234,253,260,286,293,305,319,338,343,348,353,374,379,384,426,431,438,443,450,457]
def F8:∀r∈bx,((aX r.st).kind=.function/\(aX r.st).isCoroutine=false/\(aX r.st).isGenerator=false/\r.N.Nodup/\r.N.take r.ps.length=r.ps/\(∀x∈r.ps,(aX r.st).names.lookup x=some .local\/(aX r.st).names.lookup x=some .cell)/\∀y∈(aX r.st).names,y.2≠ .free)/\(∀x∈r.N,(x==("__debug__":Str))=false/\(x==("__classdict__":Str))=false)/\r.fn.ar=r.ps.length/\r.fn.nl=r.N.length:=by decide+kernel
def F7:bx.map (λr=>u7 T 100 (aX r.st) r.N<|cx r.st)=bx.map λr=>some r.fn.body:=by kernel_rfl
def chk:∀r∈bx,Chk T r:=λr h=>
 have⟨⟨a,b,c,d,e,f,g⟩,i,j,k⟩:=F8 r h
 ⟨⟨a,b,c,d,e,f,g⟩,i,List.map_inj_left.mp F7 r h,j,k⟩
def F9(kV h J:Value)(Y:Option Addr)(I ct a b c d e f:Value):bx.map (λr=>bindArgs (PySem.W.fnOf r.fname r.qual (fV r.st) (cx r.st) (aX r.st) .none kV h J Y I ct) ⟨[a,b,c,d,e,f].take r.ps.length,[]⟩)=bx.map λr=>pure (r.ps.zip<|[a,b,c,d,e,f].take r.ps.length):=by kernel_rfl
def bg:∀r∈bx,Fe r:=λr h kV I Y Z J ct us l=>by
 have q:∀r∈bx,r.ps.length<=6:=by decide
 have e:us=(us++replicate (6 - us.length) Value.none).take us.length:=by simp
 have z:(us++replicate (6 - us.length) Value.none).length=6:=by have:=q r h;simp;omega
 generalize us++replicate (6 - us.length) Value.none=vs at e z
 match vs,z,e with
 |[a,b,c,d,x,y],_,e=>rw[e,l];exact List.map_inj_left.mp (F9 kV I Y Z J ct a b c d x y) r h
noncomputable def FP:Arguments:={posonlyargs:=[],args:=[⟨"_law_row",none,⟨423,97,423,105⟩⟩],vararg:=none,kwonlyargs:=[],kw_defaults:=[],kwarg:=none,defaults:=[]}
noncomputable def FO:Scope:={kind:= .function,names:=[("_law_row",.local)],isGenerator:=false,isCoroutine:=false,more:=[]}
def FQ:Expr:=match(cx<|top 33).getD 8 (.Pass ⟨0,0,0,0⟩) with
 | .Assign _ (.Call _ (.Call _ (e::_) _ _::_) _ _) _=>e
 |_=> .Name "" ⟨0,0,0,0⟩
end K20
end Ev
namespace Ev.K20
open L2 PySem.W
def Gs(P:Params):pM (Op.K P) T bx ad=true:=by kernel_rfl
def Gq(P:Params):(bx.zip ad).map (λp=>(Op.K P).lookup p.2)=(bx.zip ad).map λp=>E_ p.1 ((Op.K P).lookup p.2):=by kernel_rfl
def GY(P:Params):zz (Op.K P) T=true:=by kernel_rfl
def GF(P:Params):codeHdIn (Op.K P) 588 586=true:=by kernel_rfl
def BY{P:Params}{mg:Str->Option Value}{fa:Addr}(X:(Op.K P).In h)(G:h.Ns mainGlobals mg)(J:mg "law"=some (.ref fa)):
  ∃fd:FuncData,(∀(s:Shared)(u:Value),BindsTo s fd ⟨[u],[]⟩ [("_law_script",u)])/\∀base:Heap,(Op.K P).In base->base.Ns mainGlobals mg->FnOk p w (Op.K P) mg base (oY p w) (2*5+2) fa fd ["_law_script"] (qK (Op.K P) 586 #[]):=by
 have q:=J.symm.trans<|mg_of X G (show nsIn (Op.K P) mainGlobals "law"=some (some<|.ref 589) by kernel_rfl)
 cases q;obtain⟨r,fd,hr,L⟩:=Au (j:=19) (a:=589) bg (Gs P) (Gq P) rfl;have Z:Facts p w (Op.K P) mg T bx:=uK X G chk rfl bg (Gs P) (Gq P) (by decide) (GY P) rfl
 have I:bx[19]? =some (R1 "law" ["_law_script"] ["_law_left","_law_at","_law_state","_law_one","_law_other","_law_names","_law_code","_law_due","_law_again","_law_more"] 33 tM):=rfl;rw[I] at hr;cases hr;have C:=chk _<|ah I;have hb:=bg _<|ah I;have L':=L;obtain⟨oc,od,kV,Y,pm,an,cdv,ct,osl,rfl,lk,hcd⟩:=L'.f.ex;refine⟨_,λs v=>.of_eq<|hb kV Y pm an cdv ct [v] rfl,λbase _ _=>?_⟩
 exact zm (base:=base) (c:=588) (x:= "_law_row") (y:= "_law_due") (A:=(cx<|top 33).take 8) (B:=(cx<|top 33).drop 9) (e:=FQ) (params:=FP) (scope:=FO) (j:=0) (pre:=wX) (post:=uz) (ex:=eL) (i:=8)
  (py:=⟨423,4,423,12⟩) (p1:=⟨423,15,423,20⟩) (p2:=⟨423,21,423,27⟩) (p3:=⟨423,21,423,119⟩) (p4:=⟨423,15,423,120⟩) (p5:=⟨423,4,423,120⟩) (q1:=⟨423,107,423,115⟩) (q2:=⟨423,116,423,117⟩) (q3:=⟨423,107,423,118⟩) (lpos:=⟨423,90,423,118⟩) (kpos:=⟨423,86,423,118⟩)
  Z C.sc C.nm L (show((Op.K P).lookup 589).map codeOf=some (.ref 588) by kernel_rfl) rfl (show cx (top 33)=_ by kernel_rfl) (show u7 T 100 (aX<|top 33) _ _=_ by kernel_rfl) (show u7 T 100 (aX<|top 33) _ _=_ by kernel_rfl) (show cE T 100 (aX<|top 33) _ _=_ by kernel_rfl) (by decide+kernel) (by decide+kernel) (by decide+kernel) (by decide+kernel) rfl
  ⟨λh X=>codeHd_of_K X<|GF P,trivial,rfl,4,_,mg_of X G (show nsIn (Op.K P) mainGlobals "__builtins__"=some (some<|.ref 4) by kernel_rfl),by decide,by decide,by decide,(show(Op.K P).lookup 4=_ from rfl),rfl,rfl,rfl⟩ (λ_=>rfl) (λ_=>rfl) rfl rfl rfl (by decide+kernel) (by decide+kernel) (by decide+kernel) (λ_ _ _ _ _=>rfl) λns hn=>Dy (k:=0) ns hn
end Ev.K20
open PySem.W
set_option maxRecDepth 100000 in
set_option maxHeartbeats 0 in
theorem PySem.Challenge.cw_eachstepsame_k20_forms_told_holds : PySem.Challenge.rw_eachstepsame_k20_forms_told.Holds := by
 w_on;o_law
 refine holds_open (q:=Op.q) (loose:=[]) (Xt:=Op.Xt) (XP:=XL Op.q []) (Yf:=Op.hk.obs) (Ya:=Op.hk.val) (YP:=Op.hk.says) (N:=8454) Op.left (Hook.of Op.hk) (Hook.keeps Op.hk) (λs e=>xl_of s (Bool.and_eq_true_iff.mp e).1) XL.keeps (by rfl) (by rfl) (by rfl) (λs e=>recFacts_of (Bool.and_eq_true_iff.mp e).2) (by rfl) (by first|assumption|decide+kernel) (by decide+kernel) ⟨rfl,rfl,rfl,rfl,rfl,by decide+kernel⟩ ?hw ?hc
 case hw=>w_witness2
 refine L2.vj (l:=PySem.Challenge.rw_eachstepsame_k20_forms_told) (n:=63) (k:=2*5+2) (x:= "_law_script") (c:=588) (T:=586) (ps:= #[]) (K:=Op.K) (CX:=λw=>Ev.oY PySem.Challenge.rw_eachstepsame_k20_forms_told.prog w) (sp:=λw=>Ev.qK (Op.K w.params) 586 #[]) rfl (by decide) rfl ⟨rfl,by decide,by decide⟩ (λw h Y=>⟨km_in_of (K:=Op.K) (as:=Op.as) (e:=Op.keys) (ts:=[586]) Y,km_tabs_of (K:=Op.K) (as:=Op.as) (e:=Op.keys) (ts:=[586]) Y 586<|.head _⟩) (λP=>by kernel_rfl) (λP h X=>codeHd_of_K X<|Ev.K20.GF P) ?F (λ_ _ a ns hl hO hS=>⟨a,ns,rfl,hS,hO,hl,λ_=>rfl⟩) λ_ _ _ _ _ z=>z.elim
 case F=>intro w mg fa h KX G hmg;exact Ev.K20.BY KX G hmg
