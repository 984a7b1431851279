import PyProof.Rows.All
import Wide.All
import OpenK.AllK
import Wide.FinOn
import PyProof.EqAt
import PyProof.EqKinds
import PyProof.TupleCall
import Lean
import PyProof.NeKinds
import PyProof.NeData
import PyProof.FactsAll.dict
import PyProof.DictList
import KE.KDictList
import PyProof.DictItems
import PyProof.DictWalks
import PyProof.DictRoadsH
import PyProof.SetRoads
import PyProof.SetNew
import PySem.SetOps
import PyProof.Rows.SetFrom
import PyProof.SetScanFacts
import KE.KDictSum
import PyProof.Rows.FactsT3
import PyProof.Rows.FactsT2
import PyProof.EnumFor
import PyProof.EnumMake
import PyProof.EnumStmt
import PyProof.Rows.SortStr
import KE.LcSums
import PyProof.StrOps2
import PyProof.FitsBits
import PyProof.Rows.IntMath
import PyProof.ListRange
import KE.KRevIter
import PyProof.AttrMiss
import PyProof.IsiBase
import KE.KDictOf
import KE.KDictLaws
import PyProof.Rows.Range3
import PyProof.Draws
import PyProof.TupleIter
import PyProof.DictUpdate
import KE.KItemsList
import KE.KPairComp
import PyProof.DictValues
import PySem.Challenge.RW_eachstepsame_k63_measures
open List (length_map map_cons mem_cons length_cons mem_singleton map_append mem_append size_toArray range lookup_cons mem_map all_eq_true map_nil mem_cons_self mem_cons_of_mem take_length sum_cons replicate mem_filter length_nil append_assoc nodup_cons take_add_one mem_nil_iff append_nil length_take length_singleton take_of_length_le nodup_append pairwise_cons mem_range take_zero filter_append length_drop getElem_mem nil_append any_cons cons_append length_append length_dropLast filter_cons_of_pos filter_cons_of_neg length_reverse map_map sum_append length_zip filterMap_cons idxOf_cons map_drop take_succ_cons length_filter_le length_replicate Pairwise length_eq_zero_iff reverse_cons zip_cons_cons mem_filterMap of_mem_zip filterMap_map Sublist nodup_range drop_length contains_cons any_eq_true length_range sum_nil set_set range_succ map_take perm_nil)
open Bool (and_eq_true false_eq_true)
open Nat (sub_self zero_le le_succ lt_add_right zero_add ne_of_lt lt_trans not_lt_zero le_of_lt lt_succ_of_lt min_eq_left not_lt succ)
open Option (map_eq_some_iff isSome_iff_exists getD_some isSome_map getD_none isSome_some elim some)
open Array (length_toList toList)
open Int (toNat_natCast ofNat_inj emod_nonneg toNat)
set_option genSizeOf false
set_option genSizeOfSpec false
set_option maxRecDepth 100000
set_option maxHeartbeats 0
set_option Elab.async false
set_option linter.all false
noncomputable def PySem.W.Fast.tw6797679889777659717:PySem.Program:=PySem.Challenge.pw_eachstepsame_k63_measures
theorem PySem.W.Fast.te6797679889777659717:PySem.Challenge.pw_eachstepsame_k63_measures=PySem.W.Fast.tw6797679889777659717:=rfl
namespace Op
open PySem PySem.W PyProof.Rows PySem.Calls
noncomputable section
noncomputable def de(P:Params)(k:Str)(t:Nat)(v:Value):DictEntry:=⟨PyData.keyHash P k,.str k t,v⟩
noncomputable def tu(l:List Value):Obj:=⟨.type "tuple",none,.seq ⟨l⟩ 0,⟨[]⟩⟩
noncomputable def co(l:List Value):Obj:=⟨.type "code",none,.fields ⟨l⟩,⟨[]⟩⟩
noncomputable def ob(c:Value)(d:Data):Obj:=⟨c,none,d,⟨[]⟩⟩
noncomputable def at_:List Stmt->Nat->Stmt
 |[],_=> .Pass ⟨0,0,0,0⟩
 |s::_,0=>s
 |_::l,n+1=>at_ l n
noncomputable def inC:Stmt->List Stmt
 | .ClassDef _ _ _ b .. =>b
 |_=>[]
noncomputable def fd(s:Stmt)(qn:Str)(g:Nat)(cl:List (Str×Nat))(df kd dc pm:Value)(an:Option Nat)(cd ct:Value)(bl:Nat):Data:=match s with
 | .FunctionDef n a b _ _ _ sc _ _ _=> .func ⟨n,qn,a,.stmts b,sc,g,cl,df,kd,dc,pm,an,cd,ct,bl⟩
 |_=> .plain
noncomputable def body:List Stmt:=PySem.Challenge.pw_eachstepsame_k63_measures.main.body
def q:Program:={PySem.Challenge.pw_eachstepsame_k63_measures with main:={PySem.Challenge.pw_eachstepsame_k63_measures.main with body:=(((((body.eraseIdx 27).eraseIdx 22).eraseIdx 18).eraseIdx 13).eraseIdx 1)}}
def t0:Obj:=tu []
def dr(P:Params)(k:Str)(t r:Nat):DictEntry:=de P k t<|.ref r
def ds(P:Params)(k:Str)(t:Nat)(x:Str)(u:Nat):DictEntry:=de P k t<|.str x u
def dc(n:Nat)(l:List DictEntry):Obj:=ob (.type "dict")<|.dict ⟨l⟩ n
noncomputable def lf(o:Obj):BT:= .node o .nil .nil
def n7(a b c d e f g:Obj):BT:= .node a (.node b (lf c)<|lf d)<|.node e (lf f)<|lf g
def H0(a:Str)(b:Nat)(c:Int)(d:Nat)(e:Int):Obj:=co [.str a b,.str a<|b+1,.str "/claim/cut.py"<|b+2,.int c 0,.int 0 0,.int 0 0,.int 0 0,.int 0 0,.ref d,.bool false,.int 181 0,.ref<|d+1,.none,.none,.none,.none,.int e 0,.int c 0,.str "/claim/cut.py"<|b+4]
noncomputable def H1(a:Nat)(b:Nat)(c:Str)(d:Nat):Obj:=⟨.type "frame",none,.plain,⟨[some<|.ref a,some<|.ref 3,some<|.ref b,none,some<|.str c d,none,some<|.ref 0]⟩⟩
def H2(a:Str)(b:Nat):Obj:=tu [.str a b]
def H6(a:Str)(b:Nat)(c:Str)(d:Str)(e:Str)(f:Str):Obj:=tu [.str a b,.str c<|b+1,.str d<|b+2,.str e<|b+3,.str f<|b+4]
def H9(a:Str)(b:Nat)(c:Str)(d:Str):Obj:=tu [.str a b,.str c<|b+1,.str d<|b+2]
def H10(a:Str)(b:Nat)(c:Str)(d:Str)(e:Str):Obj:=tu [.str a b,.str c<|b+1,.str d<|b+2,.str e<|b+3]
noncomputable def H11(a:Str)(b:Nat)(c:Nat)(d:Nat):Obj:=⟨.type "type",none,.cls ⟨a,[.type "object"],[.ref b,.type "object"],c,a,true,[],[],false,none,false⟩,⟨[none,none,some<|.str a d,some<|.str a<|d+8,some<|.builtin "object.__new__",some<|.bool true]⟩⟩
def H12(a:Nat)(b:Nat):Obj:=ob (.type "getset_descriptor")<|.fields ⟨[.str "__dict__" a,.ref b,.builtin "function.__dict__",.builtin "function.__dict__#set"]⟩
def H13(a:Nat)(b:Nat):Obj:=ob (.type "getset_descriptor")<|.fields ⟨[.str "__weakref__" a,.ref b,.builtin "ExceptionGroup.__weakref__",.none]⟩
def H14(a:Nat):Obj:=ob (.type "super")<|.fields ⟨[.ref a,.ref a,.ref a]⟩
def H15(a:Nat):Obj:=ob (.type "builtin_function_or_method")<|.fields ⟨[.builtin "object.__init_subclass__",.ref a]⟩
def H16(P:Params)(a:Nat)(b:Str)(c:Int)(d:Str)(e:Nat)(f:Nat)(g:Str)(h:Nat)(i:Nat)(j:Str)(k:Nat)(l:Nat)(m:Str)(n:Nat):Obj:=dc 8 [ds P "__module__" a "eachstepsame.blocks" 194,ds P "__qualname__" (a+2) b<|a+1,de P "__firstlineno__" (a+4)<|.int c<|a+3,dr P d e f,dr P g h i,dr P j k l,dr P m (k+7)<|l+7,dr P "__static_attributes__" n<|l+8]
def H17(a:Int)(b:Nat)(c:Int)(d:Nat)(e:Int)(f:Nat)(g:Int):Obj:=ob .none<|.fields ⟨[.int a 0,.int 4 0,.ref b,.int c 0,.int 4 0,.ref d,.int e 0,.int 4 0,.ref f,.int g 0,.int 4 0,.ref<|f+7]⟩
def H18(a:Str)(b:Nat)(c:Str):Obj:=tu [.str a b,.str c<|b+1]
def H19(P:Params)(a:Nat)(b:Nat)(c:Int)(d:Str)(e:Nat)(f:Nat)(g:Str)(h:Nat)(i:Nat)(j:Str)(k:Nat)(l:Nat)(m:Str)(n:Nat)(o:Nat)(p:Str)(q:Nat)(r:Nat)(s:Str)(t:Nat)(u:Nat)(v:Str)(w:Nat):Obj:=dc a [ds P "__module__" b "eachstepsame.blocks" 194,de P "__firstlineno__" (b+4)<|.int c<|b+3,dr P d e f,dr P g h i,dr P j k l,dr P m n o,dr P p q r,dr P s t u,dr P v w<|u+1,de P "__doc__" (w+1) .none]
noncomputable def H20(a:Str)(b:Nat)(c:Nat)(d:Nat)(e:Nat):Obj:=⟨.type "type",none,.cls ⟨a,[.ref 94],[.ref b,.ref 94,.type "object"],c,a,true,[],[],false,none,false⟩,⟨[some<|.ref d,none,some<|.str a e,some<|.str a<|e+8,some<|.builtin "object.__new__",some<|.bool true]⟩⟩
def H21(P:Params)(a:Nat)(b:Str)(c:Int)(d:Nat)(e:Nat)(f:Nat)(g:Nat)(h:Str)(i:Nat)(j:Str)(k:Nat)(l:Nat)(m:Str)(n:Str)(o:Nat)(p:Nat):Obj:=dc 10 [ds P "__module__" a "eachstepsame.blocks" 194,ds P "__qualname__" (a+2) b<|a+1,de P "__firstlineno__" (a+4)<|.int c<|a+3,dr P "__init__" d e,dr P "told" f g,dr P h i<|g+7,dr P j k l,dr P m (k+8)<|l+7,dr P n o<|l+14,dr P "__static_attributes__" p<|l+15]
def H22(a:Int)(b:Nat)(c:Int)(d:Nat)(e:Int)(f:Int)(g:Nat)(h:Int)(i:Int):Obj:=ob .none<|.fields ⟨[.int a 0,.int 4 0,.ref b,.int c 0,.int 4 0,.ref d,.int e 0,.int 4 0,.ref<|d+7,.int f 0,.int 4 0,.ref g,.int h 0,.int 4 0,.ref<|g+7,.int i 0,.int 4 0,.ref<|g+14]⟩
def o12a:=ob .none<|.fields ⟨[]⟩
def o13a:=H0 "<module>" 182 1 11 185
def o14a:=H1 13 3 "__main__" 164
def o3(P:Params):=dc 49 [ds P "__name__" 165 "law_eachstepsame_k63_measures" 875,de P "__doc__" 166 .none,de P "__package__" 167 .none,de P "__loader__" 168<|.builtin "__main__.__loader__#opaque",de P "__spec__" 169 .none,dr P "__annotations__" 170 6,dr P "__builtins__" 171 4,ds P "__file__" 173 "/claim/cut.py" 172,de P "__cached__" 174 .none,dr P "_wall" 193 21,dr P "Row" 246 52,dr P "End" 295 94,dr P "Jump" 351 143,dr P "Branch" 418 197,dr P "Back" 466 237,dr P "Raise" 507 270,dr P "Risk" 577 322,dr P "is_call" 584 331,dr P "Block" 636 365,dr P "Function" 709 419,dr P "Code" 777 473,dr P "gone_through" 793 484,dr P "turned" 799 489,dr P "nearest_rulers" 805 494,dr P "common_ruler" 817 501,dr P "followers" 825 506,dr P "ways_of" 831 511,dr P "rulers_first" 838 518,dr P "measure" 851 525,dr P "measure_of" 857 530,dr P "weight" 864 537,dr P "ruler_counts" 874 544,dr P "_law_cell_at" 884 551,dr P "_law_mixed" 893 558,dr P "_law_numbers" 905 565,dr P "_law_take" 912 572,dr P "_law_shape" 926 579,dr P "_law_over" 932 584,dr P "_law_fresh" 941 591,dr P "_law_operand" 947 596,dr P "_law_row" 953 601,dr P "_law_body" 959 606,dr P "_law_edge" 965 611,dr P "_law_end" 971 616,dr P "_law_function" 977 621,dr P "_law_code" 985 628,dr P "_law_weight" 992 635,dr P "_law_due" 998 640,dr P "law" 1004 645]
def o12:=ob .none<|.fields ⟨[.int 1 0,.int 0 0,.ref 20,.int 5 0,.int 0 0,.ref 27,.int 18 0,.int 0 0,.ref 62,.int 31 0,.int 0 0,.ref 104,.int 47 0,.int 0 0,.ref 151,.int 68 0,.int 0 0,.ref 205,.int 81 0,.int 0 0,.ref 245,.int 91 0,.int 0 0,.ref 278,.int 114 0,.int 0 0,.ref 330,.int 116 0,.int 0 0,.ref 337,.int 131 0,.int 0 0,.ref 375,.int 155 0,.int 0 0,.ref 429,.int 178 0,.int 0 0,.ref 483,.int 194 0,.int 0 0,.ref 488,.int 200 0,.int 0 0,.ref 493,.int 215 0,.int 0 0,.ref 500,.int 226 0,.int 0 0,.ref 505,.int 228 0,.int 0 0,.ref 510,.int 230 0,.int 0 0,.ref 517,.int 233 0,.int 0 0,.ref 524,.int 239 0,.int 0 0,.ref 529,.int 245 0,.int 0 0,.ref 536,.int 251 0,.int 0 0,.ref 543,.int 259 0,.int 0 0,.ref 550,.int 263 0,.int 0 0,.ref 557,.int 267 0,.int 0 0,.ref 564,.int 280 0,.int 0 0,.ref 571,.int 284 0,.int 0 0,.ref 578,.int 293 0,.int 0 0,.ref 583,.int 307 0,.int 0 0,.ref 590,.int 311 0,.int 0 0,.ref 595,.int 319 0,.int 0 0,.ref 600,.int 334 0,.int 0 0,.ref 605,.int 352 0,.int 0 0,.ref 610,.int 355 0,.int 0 0,.ref 615,.int 373 0,.int 0 0,.ref 620,.int 388 0,.int 0 0,.ref 627,.int 391 0,.int 0 0,.ref 634,.int 395 0,.int 0 0,.ref 639,.int 406 0,.int 0 0,.ref 644]⟩
def o23:=ob (.type "builtin_function_or_method")<|.fields ⟨[.builtin "type.__prepare__",.type "type"]⟩
def o24(P:Params):=dc 7 [ds P "__module__" 203 "eachstepsame.blocks" 194,ds P "__qualname__" 205 "Row" 204,de P "__firstlineno__" 207<|.int 5 206,dr P "__init__" 218 35,dr P "told" 225 42,dr P "moved" 234 49,dr P "__static_attributes__" 239 50]
def o26:=ob .none<|.fields ⟨[.int 7 0,.int 4 0,.ref 34,.int 13 0,.int 4 0,.ref 41,.int 16 0,.int 4 0,.ref 48]⟩
def o27:=H0 "Row" 198 5 25 201
def o28:=H1 27 24 "eachstepsame.blocks" 194
def o50:=H10 "extra" 235 "name" "op" "operands"
def o51(P:Params):=dc 4 [ds P "__module__" 203 "eachstepsame.blocks" 194,de P "__firstlineno__" 207<|.int 5 206,dr P "__init__" 218 35,dr P "told" 225 42,dr P "moved" 234 49,dr P "__static_attributes__" 239 50,dr P "__dict__" 241 53,dr P "__weakref__" 243 54,de P "__doc__" 244 .none]
def o52:=H11 "Row" 52 51 196
def o53:=H12 240 52
def o54:=H13 242 52
def o55:=H14 52
def o56:=H15 52
def o59(P:Params):=H16 P 254 "End" 18 "edges" 265 70 "with_edges" 273 77 "reads" 280 84 "every_read" 288
def o61:=H17 20 69 23 76 26 83 29
def o62:=H0 "End" 249 18 60 252
def o63:=H1 62 59 "eachstepsame.blocks" 194
def o93(P:Params):=H19 P 4 254 18 "edges" 265 70 "with_edges" 273 77 "reads" 280 84 "every_read" 287 91 "__static_attributes__" 288 92 "__dict__" 290 95 "__weakref__" 292
noncomputable def o94:Obj:=⟨.type "type",none,.cls ⟨"End",[.type "object"],[.ref 94,.type "object"],93,"End",true,[],[.ref 143,.ref 197,.ref 237,.ref 270,.ref 322],false,none,false⟩,⟨[none,none,some<|.str "End" 247,some<|.str "End" 255,some<|.builtin "object.__new__",some<|.bool true]⟩⟩
def o95:=H12 289 94
def o96:=H13 291 94
def o97:=H14 94
def o98:=H15 94
def o99:=tu [.ref 94]
def o101(P:Params):=dc 9 [ds P "__module__" 303 "eachstepsame.blocks" 194,ds P "__qualname__" 305 "Jump" 304,de P "__firstlineno__" 307<|.int 31 306,dr P "__init__" 315 112,dr P "told" 322 119,dr P "moved" 331 126,dr P "edges" 338 133,dr P "with_edges" 346 140,dr P "__static_attributes__" 348 141]
def o103:=ob .none<|.fields ⟨[.int 33 0,.int 4 0,.ref 111,.int 36 0,.int 4 0,.ref 118,.int 39 0,.int 4 0,.ref 125,.int 42 0,.int 4 0,.ref 132,.int 45 0,.int 4 0,.ref 139]⟩
def o104:=H0 "Jump" 298 31 102 301
def o105:=H1 104 101 "eachstepsame.blocks" 194
def o141:=H2 "edge" 347
def o142(P:Params):=dc 2 [ds P "__module__" 303 "eachstepsame.blocks" 194,de P "__firstlineno__" 307<|.int 31 306,dr P "__init__" 315 112,dr P "told" 322 119,dr P "moved" 331 126,dr P "edges" 338 133,dr P "with_edges" 346 140,dr P "__static_attributes__" 348 141,de P "__doc__" 349 .none]
def o143:=H20 "Jump" 143 142 99 296
def o144:=H14 143
def o145:=H15 143
def o148(P:Params):=H21 P 359 "Branch" 47 373 159 380 166 "moved" 389 "edges" 396 180 "with_edges" "reads" 411 415
def o150:=H22 49 158 54 165 57 60 179 63 66
def o151:=H0 "Branch" 354 47 149 357
def o152:=H1 151 148 "eachstepsame.blocks" 194
def o195:=H9 "no" 412 "test" "yes"
def o196(P:Params):=H19 P 2 359 47 "__init__" 373 159 "told" 380 166 "moved" 389 173 "edges" 396 180 "with_edges" 404 187 "reads" 411 194 "__static_attributes__" 415
def o197:=H20 "Branch" 197 196 146 352
def o198:=H14 197
def o199:=H15 197
def o202(P:Params):=H16 P 426 "Back" 68 "__init__" 438 213 "told" 445 220 "moved" 454 227 "reads" 463
def o204:=H17 70 212 73 219 76 226 79
def o205:=H0 "Back" 421 68 203 424
def o206:=H1 205 202 "eachstepsame.blocks" 194
def o235:=H2 "operand" 462
def o236(P:Params):=dc 2 [ds P "__module__" 426 "eachstepsame.blocks" 194,de P "__firstlineno__" 430<|.int 68 429,dr P "__init__" 438 213,dr P "told" 445 220,dr P "moved" 454 227,dr P "reads" 461 234,dr P "__static_attributes__" 463 235,de P "__doc__" 464 .none]
def o237:=H20 "Back" 237 236 200 419
def o238:=H14 237
def o239:=H15 237
def o242(P:Params):=dc 7 [ds P "__module__" 474 "eachstepsame.blocks" 194,ds P "__qualname__" 476 "Raise" 475,de P "__firstlineno__" 478<|.int 81 477,dr P "__init__" 486 253,dr P "told" 493 260,dr P "moved" 502 267,dr P "__static_attributes__" 504 268]
def o244:=ob .none<|.fields ⟨[.int 83 0,.int 4 0,.ref 252,.int 86 0,.int 4 0,.ref 259,.int 89 0,.int 4 0,.ref 266]⟩
def o245:=H0 "Raise" 469 81 243 472
def o246:=H1 245 242 "eachstepsame.blocks" 194
def o268:=H2 "fault" 503
def o269(P:Params):=dc 2 [ds P "__module__" 474 "eachstepsame.blocks" 194,de P "__firstlineno__" 478<|.int 81 477,dr P "__init__" 486 253,dr P "told" 493 260,dr P "moved" 502 267,dr P "__static_attributes__" 504 268,de P "__doc__" 505 .none]
def o270:=H20 "Raise" 270 269 240 467
def o271:=H14 270
def o272:=H15 270
def o275(P:Params):=H21 P 515 "Risk" 91 531 286 538 293 "moved" 547 "edges" 553 305 "with_edges" "reads" 568 574
def o277:=H22 93 285 100 292 103 106 304 109 112
def o278:=H0 "Risk" 510 91 276 513
def o279:=H1 278 275 "eachstepsame.blocks" 194
def o320:=H6 "asked" 569 "catches" "edge" "extra" "op"
def o321(P:Params):=H19 P 2 515 91 "__init__" 531 286 "told" 538 293 "moved" 547 300 "edges" 553 305 "with_edges" 561 312 "reads" 568 319 "__static_attributes__" 574
def o322:=H20 "Risk" 322 321 273 508
def o323:=H14 322
def o324:=H15 322
def o334(P:Params):=H16 P 592 "Block" 116 "__init__" 606 345 "told" 612 350 "given" 618 355 "ticks" 629
def o336:=H17 118 344 123 349 126 354 129
def o337:=H0 "Block" 587 116 335 590
def o338:=H1 337 334 "eachstepsame.blocks" 194
def o363:=H9 "end" 626 "params" "rows"
def o364(P:Params):=H19 P 4 592 116 "__init__" 606 345 "told" 612 350 "given" 618 355 "ticks" 625 362 "__static_attributes__" 629 363 "__dict__" 631 366 "__weakref__" 633
def o365:=H11 "Block" 365 364 585
def o366:=H12 630 365
def o367:=H13 632 365
def o368:=H14 365
def o369:=H15 365
def o372(P:Params):=H21 P 644 "Function" 131 659 383 665 388 "width" 672 "kind_of" 680 402 "with_blocks" "kinds_of" 696 702
def o374:=H22 133 382 140 387 144 147 401 150 153
def o375:=H0 "Function" 639 131 373 642
def o376:=H1 375 372 "eachstepsame.blocks" 194
def o417:=H6 "blocks" 697 "gives" "kept_kinds" "kinds" "takes"
def o418(P:Params):=dc 4 [ds P "__module__" 644 "eachstepsame.blocks" 194,de P "__firstlineno__" 648<|.int 131 647,dr P "__init__" 659 383,dr P "told" 665 388,dr P "width" 672 395,dr P "kind_of" 680 402,dr P "with_blocks" 688 409,dr P "kinds_of" 696 416,dr P "__static_attributes__" 702 417,dr P "__dict__" 704 420,dr P "__weakref__" 706 421,de P "__doc__" 707 .none]
def o419:=H11 "Function" 419 418 637
def o420:=H12 703 419
def o421:=H13 705 419
def o422:=H14 419
def o423:=H15 419
def o426(P:Params):=H21 P 717 "Code" 155 729 437 735 442 "names" 742 "width" 749 456 "function_named" "with_function" 767 770
def o428:=H22 157 436 161 441 164 167 455 170 173
def o429:=H0 "Code" 712 155 427 715
def o430:=H1 429 426 "eachstepsame.blocks" 194
def o471:=H18 "functions" 768 "kept_functions"
def o472(P:Params):=dc 4 [ds P "__module__" 717 "eachstepsame.blocks" 194,de P "__firstlineno__" 721<|.int 155 720,dr P "__init__" 729 437,dr P "told" 735 442,dr P "names" 742 449,dr P "width" 749 456,dr P "function_named" 757 463,dr P "with_function" 767 470,dr P "__static_attributes__" 770 471,dr P "__dict__" 772 474,dr P "__weakref__" 774 475,de P "__doc__" 775 .none]
def o473:=H11 "Code" 473 472 710
def o474:=H12 771 473
def o475:=H13 773 473
def o476:=H14 473
def o477:=H15 473
def ha(P:Params):Heap:=⟨⟨[boot_o_0 P,boot_o_1 P,boot_o_2 P,boot_o_3 P,boot_o_4 P,boot_o_5 P,boot_o_6 P,boot_o_7 P,boot_o_8 P,boot_o_9 P,boot_o_10 P,t0,o12a,o13a,o14a]⟩,{}⟩
def tb1(P:Params):BT:=n7 (boot_o_1 P) (boot_o_3 P) (boot_o_7 P) t0 (boot_o_5 P) (boot_o_9 P) o13a
def tb2(P:Params):BT:=n7 (boot_o_2 P) (boot_o_4 P) (boot_o_8 P) o12a (boot_o_6 P) (boot_o_10 P) o14a
def tb(P:Params):BT:=(.node (boot_o_0 P) (tb1 P)<|tb2 P)
noncomputable def nm:Nat->List Str->List Value
 |_,[]=>[]
 |t,x::l=> .str x t::nm (t+1) l
noncomputable def fnm:Stmt->Str
 | .FunctionDef n _ _ _ _ _ _ _ _ _=>n
 |_=> ""
def gc(n q:Str)(a t:Nat)(l c:Int)(x y z w:Value)(m:Nat):Obj:=co [.str n t,.str q<|t+1,.str "/claim/cut.py"<|t+2,.int l 0,.int c 0,.int 0 0,.int 0 0,.int 3 0,.ref a,.bool true,.int 181 0,.ref<|a+1,.none,x,y,z,.int m 0,.int l 0,w]
def g0(s:Stmt)(q:Str):Obj:=ob .none<|fd s q 0 [] .none .none .none .none none .none .none 0
def g3(s:Stmt)(q:Str)(v:Value)(a:Nat):Obj:=ob (.type "function")<|fd s q 3 [] .none .none .none v none (.ref a) .none 0
def gs(b:List Stmt)(v:Value):List (Nat×Str×Int×Int×Option (List Str))->Nat->Nat->List Obj->List Obj
 |[],_,_,r=>r
 |(i,q,l,c,some ns)::x,a,t,r=>t0::o12a::tu (nm (t+3) ns)::t0::g0 (at_ b i) q::gc (fnm<|at_ b i) q a t l c (.ref<|a+2) (.ref<|a+3) (.ref<|a+4) (.str "/claim/cut.py"<|t+4+ns.length) (t+3+ns.length)::g3 (at_ b i) q v (a+5)::gs b v x (a+7) (t+6+ns.length) r
 |(i,q,l,c,none)::x,a,t,r=>t0::o12a::g0 (at_ b i) q::gc (fnm<|at_ b i) q a t l c .none .none (.ref<|a+2) (.str "/claim/cut.py"<|t+4) (t+3)::g3 (at_ b i) q v (a+3)::gs b v x (a+5) (t+6) r
def h0(P:Params)(r:List Obj):List Obj:=(boot_o_0 P)::(boot_o_1 P)::(boot_o_2 P)::(o3 P)::(boot_o_4 P)::(boot_o_5 P)::(boot_o_6 P)::(boot_o_7 P)::(boot_o_8 P)::(boot_o_9 P)::(boot_o_10 P)::t0::o12::o13a::o14a::r
def h1(_:Params)(r:List Obj):List Obj:=gs body (.str "__main__" 164) [(0,"_wall",1,1,some ["k"])] 15 187 r
def h2(P:Params)(r:List Obj):List Obj:=t0::o23::(o24 P)::t0::o26::o27::o28::r
def h3(_:Params)(r:List Obj):List Obj:=gs (inC<|at_ body 2) (.str "eachstepsame.blocks" 194) [(0,"Row.__init__",7,5,some ["self","name","op","extra","operands"]),(1,"Row.told",13,1,some ["self"]),(2,"Row.moved",16,3,some ["self","names","given"])] 29 208 r
def h4(P:Params)(r:List Obj):List Obj:=o50::(o51 P)::o52::o53::o54::o55::o56::t0::o23::(o59 P)::t0::o61::o62::o63::r
def h5(_:Params)(r:List Obj):List Obj:=gs (inC<|at_ body 3) (.str "eachstepsame.blocks" 194) [(0,"End.edges",20,1,some ["self"]),(1,"End.with_edges",23,2,some ["self","edges"]),(2,"End.reads",26,1,some ["self"]),(3,"End.every_read",29,1,some ["self"])] 64 259 r
def h6(P:Params)(r:List Obj):List Obj:=t0::(o93 P)::o94::o95::o96::o97::o98::o99::o23::(o101 P)::t0::o103::o104::o105::r
def h7(_:Params)(r:List Obj):List Obj:=gs (inC<|at_ body 4) (.str "eachstepsame.blocks" 194) [(0,"Jump.__init__",33,2,some ["self","edge"]),(1,"Jump.told",36,1,some ["self"]),(2,"Jump.moved",39,3,some ["self","names","blocks"]),(3,"Jump.edges",42,1,some ["self"]),(4,"Jump.with_edges",45,2,some ["self","edges"])] 106 308 r
def h8(P:Params)(r:List Obj):List Obj:=o141::(o142 P)::o143::o144::o145::o99::o23::(o148 P)::t0::o150::o151::o152::r
def h9(_:Params)(r:List Obj):List Obj:=gs (inC<|at_ body 5) (.str "eachstepsame.blocks" 194) [(0,"Branch.__init__",49,4,some ["self","test","yes","no"]),(1,"Branch.told",54,1,some ["self"]),(2,"Branch.moved",57,3,some ["self","names","blocks"]),(3,"Branch.edges",60,1,some ["self"]),(4,"Branch.with_edges",63,2,some ["self","edges"]),(5,"Branch.reads",66,1,some ["self"])] 153 364 r
def h10(P:Params)(r:List Obj):List Obj:=o195::(o196 P)::o197::o198::o199::o99::o23::(o202 P)::t0::o204::o205::o206::r
def h11(_:Params)(r:List Obj):List Obj:=gs (inC<|at_ body 6) (.str "eachstepsame.blocks" 194) [(0,"Back.__init__",70,2,some ["self","operand"]),(1,"Back.told",73,1,some ["self"]),(2,"Back.moved",76,3,some ["self","names","blocks"]),(3,"Back.reads",79,1,some ["self"])] 207 431 r
def h12(P:Params)(r:List Obj):List Obj:=o235::(o236 P)::o237::o238::o239::o99::o23::(o242 P)::t0::o244::o245::o246::r
def h13(_:Params)(r:List Obj):List Obj:=gs (inC<|at_ body 7) (.str "eachstepsame.blocks" 194) [(0,"Raise.__init__",83,2,some ["self","fault"]),(1,"Raise.told",86,1,some ["self"]),(2,"Raise.moved",89,3,some ["self","names","blocks"])] 247 479 r
def h14(P:Params)(r:List Obj):List Obj:=o268::(o269 P)::o270::o271::o272::o99::o23::(o275 P)::t0::o277::o278::o279::r
def h15(_:Params)(r:List Obj):List Obj:=gs (inC<|at_ body 8) (.str "eachstepsame.blocks" 194) [(0,"Risk.__init__",93,6,some ["self","op","extra","asked","edge","catches"]),(1,"Risk.told",100,1,some ["self"]),(2,"Risk.moved",103,3,some ["self","names","blocks"]),(3,"Risk.edges",106,1,none),(4,"Risk.with_edges",109,2,some ["self","edges"]),(5,"Risk.reads",112,1,some ["self"])] 280 520 r
def h16(P:Params)(r:List Obj):List Obj:=o320::(o321 P)::o322::o323::o324::r
def h17(_:Params)(r:List Obj):List Obj:=gs body (.str "eachstepsame.blocks" 194) [(9,"is_call",114,1,some ["end"])] 325 578 r
def h18(P:Params)(r:List Obj):List Obj:=t0::o23::(o334 P)::t0::o336::o337::o338::r
def h19(_:Params)(r:List Obj):List Obj:=gs (inC<|at_ body 10) (.str "eachstepsame.blocks" 194) [(0,"Block.__init__",118,4,some ["self","params","rows","end"]),(1,"Block.told",123,1,none),(2,"Block.given",126,1,none),(3,"Block.ticks",129,1,some ["self"])] 339 597 r
def h20(P:Params)(r:List Obj):List Obj:=o363::(o364 P)::o365::o366::o367::o368::o369::t0::o23::(o372 P)::t0::o374::o375::o376::r
def h21(_:Params)(r:List Obj):List Obj:=gs (inC<|at_ body 11) (.str "eachstepsame.blocks" 194) [(0,"Function.__init__",133,5,some ["self","takes","gives","kinds","blocks"]),(1,"Function.told",140,1,none),(2,"Function.width",144,1,some ["self"]),(3,"Function.kind_of",147,2,some ["self","name"]),(4,"Function.with_blocks",150,2,some ["self","blocks"]),(5,"Function.kinds_of",153,2,some ["self","names"])] 377 649 r
def h22(P:Params)(r:List Obj):List Obj:=o417::(o418 P)::o419::o420::o421::o422::o423::t0::o23::(o426 P)::t0::o428::o429::o430::r
def h23(_:Params)(r:List Obj):List Obj:=gs (inC<|at_ body 12) (.str "eachstepsame.blocks" 194) [(0,"Code.__init__",157,2,some ["self","functions"]),(1,"Code.told",161,1,none),(2,"Code.names",164,1,some ["self"]),(3,"Code.width",167,1,some ["self"]),(4,"Code.function_named",170,2,some ["self","name"]),(5,"Code.with_function",173,3,some ["self","name","function","functions"])] 431 722 r
def h24(P:Params)(r:List Obj):List Obj:=o471::(o472 P)::o473::o474::o475::o476::o477::r
def h25(_:Params)(r:List Obj):List Obj:=gs body (.str "eachstepsame.ways" 778) [(14,"gone_through",178,3,some ["ways","begin","done","order","pile","top","number","follower"]),(15,"turned",194,1,none),(16,"nearest_rulers",200,1,none),(17,"common_ruler",215,3,some ["numbers","nearest","rank","ruler","number","climbing"])] 478 780 r
def h26(_:Params)(r:List Obj):List Obj:=gs body (.str "eachstepsame.fits" 818) [(19,"followers",226,2,none),(20,"ways_of",228,1,none),(21,"rulers_first",230,1,some ["function"])] 502 820 r
def h27(_:Params)(r:List Obj):List Obj:=gs body (.str "eachstepsame.passes" 839) [(23,"measure",233,1,some ["code","sums","name","place","part"]),(24,"measure_of",239,1,none),(25,"weight",245,1,some ["end"]),(26,"ruler_counts",251,1,some ["function","nearest","counts","number"])] 519 841 r
def h28(_:Params)(r:List Obj):List Obj:=gs body (.str "law_eachstepsame_k63_measures" 875) [(28,"_law_cell_at",259,2,some ["_law_script","_law_k"]),(29,"_law_mixed",263,2,some ["_law_cell","_law_k","_law_number"]),(30,"_law_numbers",267,2,some ["_law_cells","_law_many","_law_found","_law_cell","_law_left","_law_k"]),(31,"_law_take",280,1,some ["_law_left"]),(32,"_law_shape",284,2,some ["_law_left","_law_calls","_law_many","_law_ends","_law_number","_law_word","_law_other","_law_both"]),(33,"_law_over",293,1,none),(34,"_law_fresh",307,3,some ["_law_state","_law_left","_law_kind"]),(35,"_law_operand",311,4,none),(36,"_law_row",319,3,none),(37,"_law_body",334,4,none),(38,"_law_edge",352,5,none),(39,"_law_end",355,4,none)] 545 877 r
def h29(_:Params)(r:List Obj):List Obj:=gs body (.str "law_eachstepsame_k63_measures" 875) [(40,"_law_function",373,3,none),(41,"_law_code",388,1,some ["_law_left","_law_helper"]),(42,"_law_weight",391,1,some ["_law_told"]),(43,"_law_due",395,1,none),(44,"law",406,1,none)] 617 972 r
def hl(P:Params):List Obj:=h0 P<|h1 P<|h2 P<|h3 P<|h4 P<|h5 P<|h6 P<|h7 P<|h8 P<|h9 P<|h10 P<|h11 P<|h12 P<|h13 P<|h14 P<|h15 P<|h16 P<|h17 P<|h18 P<|h19 P<|h20 P<|h21 P<|h22 P<|h23 P<|h24 P<|h25 P<|h26 P<|h27 P<|h28 P<|h29 P<|[]
def hf(P:Params):Heap:=⟨⟨hl P⟩,{}⟩
noncomputable def ev:List Obj->List Obj
 |a::_::l=>a::ev l
 |l=>l
noncomputable def od:List Obj->List Obj
 |_::b::l=>b::od l
 |_=>[]
def mT:Nat->List Obj->BT
 |n+1,a::l=> .node a (mT n<|ev l)<|mT n<|od l
 |_,_=> .nil
def tl(P:Params):BT:=mT 11<|hl P
noncomputable def pk:Nat->List Addr->List Obj->Frag
 |n,a::r,o::l=>if Nat.beq n a then(a,o)::pk (n+1) r l else pk (n+1) (a::r) l
 |_,_,_=>[]
noncomputable def as:List Addr:=[2,3,15,17,18,20,21,29,31,32,34,35,36,38,39,41,42,43,45,46,48,49,50,51,52,53,54,64,66,67,69,70,71,73,74,76,77,78,80,81,83,84,85,87,88,90,91,92,93,94,95,96,99,106,108,109,111,112,113,115,116,118,119,120,122,123,125,126,127,129,130,132,133,134,136,137,139,140,141,142,143,146,153,155,156,158,159,160,162,163,165,166,167,169,170,172,173,174,176,177,179,180,181,183,184,186,187,188,190,191,193,194,195,196,197,200,207,209,210,212,213,214,216,217,219,220,221,223,224,226,227,228,230,231,233,234,235,236,237,240,247,249,250,252,253,254,256,257,259,260,261,263,264,266,267,268,269,270,273,280,282,283,285,286,287,289,290,292,293,294,296,297,299,300,301,304,305,306,308,309,311,312,313,315,316,318,319,320,321,322,325,327,328,330,331,339,341,342,344,345,346,349,350,351,354,355,356,358,359,361,362,363,364,365,366,367,377,379,380,382,383,384,387,388,389,391,392,394,395,396,398,399,401,402,403,405,406,408,409,410,412,413,415,416,417,418,419,420,421,431,433,434,436,437,438,441,442,443,445,446,448,449,450,452,453,455,456,457,459,460,462,463,464,466,467,469,470,471,472,473,474,475,478,480,481,483,484,485,488,489,490,493,494,495,497,498,500,501,502,505,506,507,510,511,512,514,515,517,518,519,521,522,524,525,526,529,530,531,533,534,536,537,538,540,541,543,544,552,554,555,557,558,559,561,562,564,565,566,568,569,571,572,573,575,576,578,579,580,583,584,585,587,588,590,591,592,595,596,597,600,601,602,605,606,607,610,611,612,615,616,617,620,621,622,624,625,627,628,629,631,632,634,635,636,639,640,641,644,645]
def K(P:Params):Frag:=pk 0 as<|hl P
def kc(P:Params):Frag:=K P
noncomputable def env:Env:={scope:=PySem.Challenge.pw_eachstepsame_k63_measures.main.scope,locals:=mainNs,globals:=mainNs,cells:=[],code:=(.ref 13),frame:=some 14}
def cE:Code:= .body (behindTheImports PySem.Challenge.pw_eachstepsame_k63_measures) env
theorem tws:((λ(_:Params->BT) (_:Params->BT) (_:Params->Heap) (_:Params->Heap) (_:Params->Frag) (_:Program) (_:Code)=>true) tb tl ha hf kc q cE)=true:=by k_qdec
theorem pre(w:World):(λos:OsState=>topGo treeTable PySem.Challenge.pw_eachstepsame_k63_measures w 11 (some<|.ref 6) 12 ⟨boot_heap w.params,⟨[]⟩,boot_drawn,boot_toks,os⟩<|topStub PySem.Challenge.pw_eachstepsame_k63_measures)=λos=>some (⟨ha w.params,⟨[]⟩,{},187,os⟩,⟨denote treeTable cE,cE,⟨0,0,0,0⟩,[topFrame ⟨0,0,0,0⟩]⟩):=by
 rewrite[PySem.W.Fast.te15667345088766844465,PySem.W.Fast.te14364793385576792824,PySem.W.Fast.te6797679889777659717,PySem.W.Fast.te12167769141508308155,PySem.W.Fast.te11892475500146522536,PySem.W.Fast.te2343313782933208130]
 kernel_rfl
theorem block(w:World):(λos:OsState=>segRun treeTable PySem.Challenge.pw_eachstepsame_k63_measures w 11 (some<|.ref 6) 1 1 ⟨ha w.params,⟨[]⟩,{},187,os⟩<|blockOf (behindTheImports PySem.Challenge.pw_eachstepsame_k63_measures) env cE ⟨0,0,0,0⟩ [topFrame ⟨0,0,0,0⟩])=λos=>some (Flow.next,(⟨tb w.params,15,{},⟨[]⟩,{},187,os⟩:SharedT).abs,cE,⟨0,0,0,0⟩):=by
 rewrite[PySem.W.Fast.te14374325043358763698,PySem.W.Fast.te14364793385576792824,PySem.W.Fast.te6797679889777659717,PySem.W.Fast.te12167769141508308155,PySem.W.Fast.te17306263501064129316,PySem.W.Fast.te17150320874572105945,PySem.W.Fast.te2343313782933208130]
 kernel_rfl
theorem seg(w:World):(λos:OsState=>segRunT treeTable PySem.Challenge.pw_eachstepsame_k63_measures w 11 (some<|.ref 6) 1 4429 (⟨tb w.params,15,{},⟨[]⟩,{},187,os⟩:SharedT)<|piecesOf (behindTheImports PySem.Challenge.pw_eachstepsame_k63_measures) env cE ⟨0,0,0,0⟩ [topFrame ⟨0,0,0,0⟩])=λos=>some (Flow.next,(⟨tl w.params,646,{},⟨[]⟩,{},1005,os⟩:SharedT),cE,⟨406,0,417,15⟩):=by
 rewrite[PySem.W.Fast.te10110043849684766642,PySem.W.Fast.te14364793385576792824,PySem.W.Fast.te6797679889777659717,PySem.W.Fast.te17306263501064129316,PySem.W.Fast.te7101502176447651324,PySem.W.Fast.te17150320874572105945,PySem.W.Fast.te2343313782933208130]
 kernel_rfl
theorem fin(w:World):(λos:OsState=>topRun treeTable PySem.Challenge.pw_eachstepsame_k63_measures w 11 (some<|.ref 6) 2 (⟨tl w.params,646,{},⟨[]⟩,{},1005,os⟩:SharedT).abs ⟨doneF .next,cE,⟨406,0,417,15⟩,[topFrame ⟨0,0,0,0⟩]⟩)=λos=>some (⟨hf w.params,⟨[]⟩,{},1005,os⟩:Shared):=by
 rewrite[PySem.W.Fast.te14082659384304107361,PySem.W.Fast.te14364793385576792824,PySem.W.Fast.te6797679889777659717,PySem.W.Fast.te7101502176447651324,PySem.W.Fast.te10544986032919753165,PySem.W.Fast.te2343313782933208130]
 kernel_rfl
theorem run(w:World)(os:OsState):topRun treeTable PySem.Challenge.pw_eachstepsame_k63_measures w 11 (some<|.ref 6) (12+(1+(4429+2))) ⟨boot_heap w.params,⟨[]⟩,boot_drawn,boot_toks,os⟩ (topStub PySem.Challenge.pw_eachstepsame_k63_measures)=some (⟨hf w.params,⟨[]⟩,{},1005,os⟩:Shared):=by have a:=piece_app (rest:=[]) (segRun_of<|congrFun (seg w) os)<|piece_nil<|congrFun (fin w) os;rw[append_nil] at a;exact go_top (congrFun (pre w) os)<|piece_block (congrFun (block w) os) a
def Xt(s:Shared):Bool:=xlAt q [] s&&recOk [] s
theorem keys(P:Params):as=(K P).map (·.1):=by kernel_rfl
def hk:Hook:=kHook K as keys
theorem lk1(w:World):(λos:OsState=>staticsOk (importedModules PySem.Challenge.pw_eachstepsame_k63_measures.main.body) (boot_heap w.params) (hf w.params)&&namesBound PySem.Challenge.pw_eachstepsame_k63_measures (hf w.params)&&gensDone (⟨hf w.params,⟨[]⟩,{},1005,os⟩:Shared)&&laidKept (boot_heap w.params) (hf w.params))=λos=>true:=by
 rewrite[PySem.W.Fast.te5923862056798008813,PySem.W.Fast.te6797679889777659717,PySem.W.Fast.te10544986032919753165]
 kernel_rfl
theorem lk2(w:World):(λos:OsState=>seen ((recsOf q).map (·.name)) (ownsOf q) [] {(⟨hf w.params,⟨[]⟩,{},1005,os⟩:Shared) with gens:= #[]})=λos=>expectedOf q:=by
 rewrite[PySem.W.Fast.te5160383126252970620,PySem.W.Fast.te3399658132070893891,PySem.W.Fast.te5991557255702980513,PySem.W.Fast.te1768822226353211369,PySem.W.Fast.te10544986032919753165]
 kernel_rfl
theorem lk3(w:World):(λos:OsState=>(⟨hf w.params,⟨[]⟩,{},1005,os⟩:Shared).heap.bltView)=λos=>bltViewBooted:=by
 rewrite[PySem.W.Fast.te10544986032919753165]
 kernel_rfl
theorem lk4(w:World):(λos:OsState=>(⟨hf w.params,⟨[]⟩,{},1005,os⟩:Shared).heap.keysOk (looseW q []) ((recsOf q).map (·.name)) ((litsOf q).map (·.1)) ((clssOf q<|looseW q []).map (·.name))&&(⟨hf w.params,⟨[]⟩,{},1005,os⟩:Shared).heap.accountedOkI (importedModules PySem.Challenge.pw_eachstepsame_k63_measures.main.body)&&(⟨hf w.params,⟨[]⟩,{},1005,os⟩:Shared).heap.isNs mainGlobals&&(⟨hf w.params,⟨[]⟩,{},1005,os⟩:Shared).heap.isNs builtinsNs&&tablesOk q (⟨hf w.params,⟨[]⟩,{},1005,os⟩:Shared).heap&&Xt (⟨hf w.params,⟨[]⟩,{},1005,os⟩:Shared)&&(if true then(⟨hf w.params,⟨[]⟩,{},1005,os⟩:Shared).gens.size==0 else !leftWithCleanup (⟨hf w.params,⟨[]⟩,{},1005,os⟩:Shared).gens))=λos=>true:=by
 rewrite[PySem.W.Fast.te821141287760084731,PySem.W.Fast.te3399658132070893891,PySem.W.Fast.te7409074990110511671,PySem.W.Fast.te13664370479719496447,PySem.W.Fast.te5923862056798008813,PySem.W.Fast.te10994771534591457954,PySem.W.Fast.te6797679889777659717,PySem.W.Fast.te1768822226353211369,PySem.W.Fast.te10544986032919753165]
 kernel_rfl
theorem lk5(w:World):(λos:OsState=>tabsOk q (⟨hf w.params,⟨[]⟩,{},1005,os⟩:Shared))=λos=>true:=by
 rewrite[PySem.W.Fast.te479339242167458305,PySem.W.Fast.te1768822226353211369,PySem.W.Fast.te10544986032919753165]
 kernel_rfl
theorem lk6(w:World):(λos:OsState=>pinSeenD q (drecsOf q) (⟨hf w.params,⟨[]⟩,{},1005,os⟩:Shared))=λos=>pinGoodD (drecsOf q):=by
 rewrite[PySem.W.Fast.te16090120013241838585,PySem.W.Fast.te3247288618530077131,PySem.W.Fast.te1768822226353211369,PySem.W.Fast.te10544986032919753165]
 kernel_rfl
theorem lk7(w:World):(λos:OsState=>plainSeenE q (looseW q []) (⟨hf w.params,⟨[]⟩,{},1005,os⟩:Shared))=λos=>plainGoodE q (looseW q []):=by
 rewrite[PySem.W.Fast.te2386780881361962483,PySem.W.Fast.te821141287760084731,PySem.W.Fast.te1768822226353211369,PySem.W.Fast.te10544986032919753165]
 kernel_rfl
theorem lk8(w:World):(λos:OsState=>plainSeenD q [] (⟨hf w.params,⟨[]⟩,{},1005,os⟩:Shared))=λos=>plainGoodD q []:=by
 rewrite[PySem.W.Fast.te11698064438423848299,PySem.W.Fast.te1768822226353211369,PySem.W.Fast.te10544986032919753165]
 kernel_rfl
theorem lk9(w:World):(λos:OsState=>wideSeen q (⟨hf w.params,⟨[]⟩,{},1005,os⟩:Shared))=λos=>wideGood q:=by
 rewrite[PySem.W.Fast.te7317090234206586261,PySem.W.Fast.te1768822226353211369,PySem.W.Fast.te10544986032919753165]
 kernel_rfl
theorem lk10(w:World):(λos:OsState=>clsSeenW q [] (⟨hf w.params,⟨[]⟩,{},1005,os⟩:Shared))=λos=>clsGoodW q []:=by
 rewrite[PySem.W.Fast.te7369524293546568484,PySem.W.Fast.te1768822226353211369,PySem.W.Fast.te10544986032919753165]
 kernel_rfl
theorem kkc:K=kc:=rfl
theorem lk11(w:World):(λos:OsState=>hk.obs (⟨hf w.params,⟨[]⟩,{},1005,os⟩:Shared))=λos=>hk.val w:=by
 show(λos:OsState=>as.map (⟨hf w.params,⟨[]⟩,{},1005,os⟩:Shared).heap.get?)=λos=>(K w.params).map λp=>some p.2
 rewrite[kkc,PySem.W.Fast.te10544986032919753165,PySem.W.Fast.te11339538413228328203]
 kernel_rfl
theorem looks(w:World):(λos:OsState=>((staticsOk (importedModules PySem.Challenge.pw_eachstepsame_k63_measures.main.body) (boot_heap w.params) (hf w.params)&&namesBound PySem.Challenge.pw_eachstepsame_k63_measures (hf w.params)&&gensDone (⟨hf w.params,⟨[]⟩,{},1005,os⟩:Shared)&&laidKept (boot_heap w.params) (hf w.params)),
  openSeen q [] (importedModules PySem.Challenge.pw_eachstepsame_k63_measures.main.body) Xt true (⟨hf w.params,⟨[]⟩,{},1005,os⟩:Shared),hk.obs (⟨hf w.params,⟨[]⟩,{},1005,os⟩:Shared)))=λ_=>(true,openGood q [],hk.val w):=by
 funext os;refine looks_pair (congrFun (lk1 w) os)<|looks_pair ?_<|congrFun (lk11 w) os;exact looks_pair (congrFun (lk2 w) os)<|looks_pair (congrFun (lk3 w) os)<|looks_pair (congrFun (lk4 w) os)<|looks_pair (congrFun (lk5 w) os)<|looks_pair (congrFun (lk6 w) os)<|looks_pair (congrFun (lk7 w) os)<|looks_pair (congrFun (lk8 w) os)<|looks_pair (congrFun (lk9 w) os)<|congrFun (lk10 w) os
theorem left:LeftO PySem.Challenge.pw_eachstepsame_k63_measures q [] Xt hk.obs hk.val 8982 true:=
 LeftO.of_pieces (boot_open (by kernel_rfl) (by kernel_rfl) (λs=>by kernel_rfl)) (λw=>by kernel_rfl) run (by kernel_rfl) looks
end
end Op
noncomputable section
section
open PySem PySem.Spec PyProof.Rows
noncomputable def ae:= @wpAny_bind
noncomputable def ah:= @Heap.get?_push_of_some
noncomputable def aD:= @List.getElem?_set_ne
noncomputable def aQ:= @Bool.false_ne_true
noncomputable def ai:= @wpAny_pure
noncomputable def ak:= @some.inj
noncomputable def aa:= @Nat.le_refl
noncomputable def au:= @Heap.lt_size
noncomputable def aw:= @ne_of_lt
noncomputable def ag:= @List.mem_of_getElem?
noncomputable def ao:= @Nat.lt_of_lt_of_le
noncomputable def aC:= @Heap.get?_push_size
noncomputable def af:= @List.getElem?_eq_getElem
noncomputable def bM:= @List.set_append_left
noncomputable def aL:= @PySem.mem_of_lookup
noncomputable def aA:= @List.length_set
noncomputable def aJ:= @Nat.lt_succ_self
noncomputable def aj:= @List.getElem?_map
noncomputable def aS:= @List.mem_append_right
noncomputable def aB:= @List.getElem?_append_left
noncomputable def az:= @List.getElem?_append_right
noncomputable def aE:= @length_append
noncomputable def aK:= @List.getElem?_set_self
noncomputable def aM:= @Nat.le_trans
noncomputable def bd:= @Nat.ne_of_gt
noncomputable def bm:= @Int.emod_lt_of_pos
noncomputable def aR:= @List.mem_append_left
noncomputable def a_:= @List.getElem?_eq_none
noncomputable def a8:= @Nat.lt_irrefl
noncomputable def a9:= @wpAny_mono
noncomputable def bT:= @wpAny_field
noncomputable def a7:= @PyProof.Rows.callWith_type1
theorem aq{α:Type _}{l:List α}{i:Nat}{a:α}(h:l[i]? =some a):∃h:i<l.length,l[i]=a:=List.getElem?_eq_some_iff.mp h
noncomputable abbrev aF:=PySem.W.Frag
end
theorem F2{P:Prop}(h:false=true):P:=absurd h aQ
namespace L2
open PySem PySem.Spec PyProof.Rows
variable{us:List Value}{u:Value}{C a b dx it:Addr}{base h:Heap}{w:World}{P:Program}{o:Obj}{ch fp:List Addr}{i j n t':Nat}{qual x:Str}{E Q:Value->Shared->Prop}{A:Around}{c e tg:Expr}{s:Shared}{p pos:Pos}{pins:List (Addr×Obj)}{f:Value->Value->Sem Value}{mA mg:Str->Option Value}{kw:List (Str×Value)}
noncomputable abbrev Key:=Sum Int Str
noncomputable def jn:Key->Value->Bool
 | .inl k,v=>Value.isInt k v
 | .inr x,v=>Value.isStrOf x v
noncomputable def EU(w:World):Key->Int
 | .inl k=>hashInt k
 | .inr x=>hashStr w x
theorem bP:∀{k:Key}{v:Value},jn k v=true->(∃i t,k=Sum.inl i/\v=Value.int i t)∨(∃x t,k=Sum.inr x/\v=Value.str x t)
 | .inl i,v,h=>by obtain⟨t,e⟩:=Value.isInt_shape (k:=i) (v:=v) h;exact .inl ⟨i,t,rfl,e⟩
 | .inr x,v,h=>by obtain⟨t,e⟩:=Value.isStrOf_shape (x:=x) (v:=v) h;exact .inr ⟨x,t,rfl,e⟩
theorem sN(i:Int)(t:Tok):jn (.inl i) (.int i t)=true:=by simp[jn,Value.isInt]
theorem sM(x:Str)(t:Tok):jn (.inr x) (.str x t)=true:=by simp[jn,Value.isStrOf]
theorem AY(a b:Int):decide ((Sum.inl a:Key)=Sum.inl b)=(a==b):=by
 by_cases e:a=b
 .subst e;simp
 .have h:¬(Sum.inl a:Key)=Sum.inl b:=λq=>e<|Sum.inl.inj q;rw[decide_eq_false h];exact(beq_eq_false_iff_ne.mpr e).symm
theorem AV(a b:Str):decide ((Sum.inr a:Key)=Sum.inr b)=decide (a=b):=by
 by_cases e:a=b
 .subst e;simp
 .have h:¬(Sum.inr a:Key)=Sum.inr b:=λq=>e<|Sum.inr.inj q;rw[decide_eq_false h,decide_eq_false e]
theorem AX(a:Int)(b:Str):decide ((Sum.inl a:Key)=Sum.inr b)=false:=decide_eq_false (λq=>nomatch q)
theorem AW(a:Str)(b:Int):decide ((Sum.inr a:Key)=Sum.inl b)=false:=decide_eq_false (λq=>nomatch q)
def bF(prog:Program)(w:World):PySem.KeyKind prog w Key where
 is:=jn
 hash:=EU w
 inj:=λv a b ha hb=>by
  rcases bP ha with⟨i,t,rfl,rfl⟩|⟨x,t,rfl,rfl⟩
  .rcases bP hb with⟨j,u,rfl,e⟩|⟨y,u,rfl,e⟩
   .injection e with e1 _;rw[e1]
   .exact nomatch e
  .rcases bP hb with⟨j,u,rfl,e⟩|⟨y,u,rfl,e⟩
   .exact nomatch e
   .injection e with e1 _;rw[e1]
 byValue:=λk v h=>by rcases bP h with⟨i,t,rfl,rfl⟩|⟨x,t,rfl,rfl⟩<;>rfl
 pyHash:=λhv h=>by
  rcases bP hv with⟨i,t,rfl,rfl⟩|⟨x,t,rfl,rfl⟩
  .exact wpAny_pyHash_int h
  .exact wpAny_pyHash_str h
 eqBool:=λhu hv h=>by
  rcases bP hu with⟨i,t,rfl,rfl⟩|⟨x,t,rfl,rfl⟩
  .rcases bP hv with⟨j,u,rfl,rfl⟩|⟨y,u,rfl,rfl⟩
   .rw[AY] at h;exact wpAny_eqBool_int h
   .rw[AX] at h;exact SeqAt.EqAt.int_str i t y u _ _ _ _ h
  .rcases bP hv with⟨j,u,rfl,rfl⟩|⟨y,u,rfl,rfl⟩
   .rw[AW] at h;exact SeqAt.EqAt.str_int x t j u _ _ _ _ h
   .rw[AV] at h;exact wpAny_eqBool_str h
 «strs»:=λk x t v h=>by
  rcases bP h with⟨i,u,rfl,e⟩|⟨y,u,rfl,e⟩
  .exact nomatch e
  .injection e with e1 _;subst e1;cases v<;>rfl
theorem n_(prog:Program)(w:World)(i:Int)(t:Tok):(bF prog w).is (.inl i) (.int i t)=true:=sN i t
theorem n8(prog:Program)(w:World)(x:Str)(t:Tok):(bF prog w).is (.inr x) (.str x t)=true:=sM x t
inductive V where
 |non|bl (b:Bool)|int (i:Int)|str (x:Str)|byt (b:Array UInt8)|flt (b:UInt64)|ref (a:Addr)|ty (n:String)
 deriving DecidableEq
noncomputable def RelV:V->Value->Prop
 | .non,u=>u=Value.none
 | .bl b,u=>u=Value.bool b
 | .int i,u=>∃t,u=Value.int i t
 | .str x,u=>∃t,u=Value.str x t
 | .byt b,u=>∃t,u=Value.bytes b t
 | .flt b,u=>∃t,u=Value.float b t
 | .ref a,u=>u=Value.ref a
 | .ty n,u=>u=Value.type n
abbrev bn:List V->List Value->Prop:=Paired RelV
theorem bn.length{xs:List V}(r:bn xs us):xs.length=us.length:=Paired.length r
theorem bn.get:∀{xs:List V}{us:List Value}{i:Nat}{x:V},bn xs us->xs[i]? =some x->∃u,us[i]? =some u/\RelV x u
 |_,_,_,_,.nil,e=>by simp at e
 |_,_,0,_,.cons r _,e=>by simp at e;subst e;exact⟨_,rfl,r⟩
 |_,_,i+1,x,.cons _ t,e=>by
  obtain⟨u,h1,h2⟩:=bn.get (i:=i) (x:=x) t (by simpa using e)
  exact⟨u,by simpa using h1,h2⟩
theorem bn.set{x:V}(r:RelV x u):∀{xs:List V}{us:List Value}(i:Nat),bn xs us->bn (xs.set i x) (us.set i u)
 |_,_,_,.nil=>.nil
 |_,_,0,.cons _ t=>.cons r t
 |_,_,i+1,.cons q t=>.cons q<|bn.set r i t
theorem bn.append:∀{xs ys:List V}{us ws:List Value},bn xs us->bn ys ws->bn (xs++ys) (us++ws)
 |_,_,_,_,.nil,s=>s
 |_,_,_,_,.cons r t,s=>.cons r<|bn.append t s
theorem bn.take:∀{xs:List V}{us:List Value}(n:Nat),bn xs us->bn (xs.take n) (us.take n)
 |_,_,0,_=>.nil
 |_,_,_+1,.nil=>.nil
 |_,_,n+1,.cons r t=>.cons r<|bn.take n t
theorem bn.drop:∀{xs:List V}{us:List Value}(n:Nat),bn xs us->bn (xs.drop n) (us.drop n)
 |_,_,0,r=>r
 |_,_,_+1,.nil=>.nil
 |_,_,n+1,.cons _ t=>bn.drop n t
def fQ:Option V->Option Value->Prop
 |some v,some u=>RelV v u
 |none,none=>True
 |_,_=>False
def KV{κ:Type}:List (κ×V)->List (κ×Value)->Prop:=Paired λ(p:κ×V)(q:κ×Value)=>p.1=q.1/\RelV p.2 q.2
noncomputable def kV:Key->V
 | .inl i=>.int i
 | .inr x=>.str x
inductive HO where
 |lst (xs:List V)
 |tup (xs:List V)
 |dK (kvs:List (Key×V))|dT (kvs:List (List Key×V))
 |set (S:Int->Bool)(n:Nat)
 |ins (C dx:Addr)(fs:List (Str×V))
 |own (x:Addr)
 |xd (fs:List (Str×V))
 |met (f x:Addr)
 |rng (lo hi:Int)
 |frz (o:Obj)(u:HO)
 |tbl (ps:Array Value)
 |ext (φ:Heap->Prop)
noncomputable abbrev Hp:=Addr->Option HO
noncomputable def upd(H:Hp)(a:Addr)(o:HO):Hp:=λb=>if b=a then some o else H b
theorem bf{H:Hp}{o:HO}:upd H a o a=some o:=by unfold upd;rw[if_pos rfl]
theorem aI{H:Hp}{o:HO}(h:b≠a):upd H a o b=H b:=by unfold upd;rw[if_neg h]
theorem cm{H:Hp}{o u:HO}(h:H a=some o)(h':H b=some u)(d:o≠u):a≠b:=by intro e;subst e;rw[h] at h';exact d<|ak h'
theorem aN{H:Hp}{o:HO}(h:H a=some o)(h':H b=none):a≠b:=by intro e;subst e;rw[h] at h';cases h'
noncomputable def nq(h:Heap)(a:Addr)(its:Array Value):Prop:=∃o,h.get? a=some o/\(o.cls=.type "tuple" /\o.dict=none)/\∃n,o.data=.seq its n
theorem nq.tup{its:Array Value}(x:nq h a its):IsTup h a its:=let⟨o,e,c,d⟩:=x;⟨o,e,c.1,d⟩
theorem nq.lt{its:Array Value}(x:nq h a its):a<h.objs.size:=x.tup.lt
theorem nq.new(h:Heap)(its:Array Value):nq (h.push {cls:= .type "tuple",data:= .seq its}) h.objs.size its:=⟨_,aC _ rfl,⟨rfl,rfl⟩,0,rfl⟩
section
variable(P:Program)(w:World)
def bQ(H:Hp)(h:Heap)(a:Addr):HO->Prop
 | .lst xs=>xs.length<=sizeLine/\∃(its:List Value)(n:Nat),bn xs its/\h.get? a=some {cls:= .type "list",data:= .seq its.toArray n}
 | .tup xs=>xs.length<=sizeLine/\∃its:List Value,bn xs its/\nq h a its.toArray
 | .dK kvs=>kvs.length<=sizeLine/\(a==sysModules)=false/\∃vs,KV kvs vs/\h.DictOf (bF P w) a vs
 | .dT kvs=>kvs.length<=sizeLine/\(a==sysModules)=false/\∃xs:List (List Key×Addr×Value),
   Paired (λ(p:List Key×V)(q:List Key×Addr×Value)=>p.1=q.1/\H q.2.1=some (.tup<|p.1.map kV)/\RelV p.2 q.2.2) kvs xs/\
   ∃o es ep,h.get? a=some o/\o.ExactDict/\o.data=.dict es ep/\es.toList=xs.map (entryOfKey<|tupleKind<|bF P w)/\(xs.map (·.1)).Nodup
 | .set S n=>h.SetOf (intKind P w) a S n
 | .ins C dx fs=>H dx=some (.own a)/\fs.length<=1000/\dx≠a/\h.get? a=some (PySem.W.instObj C dx)/\
   ∃mA,h.Ns1 dx mA/\(∀f,fQ (fs.lookup f)<|mA f)/\PySem.Within mA (fs.map (·.1))
 | .own _=>∃o,h.get? a=some o
 | .xd fs=>∃mA,h.Ns1 a mA/\∀f,fQ (fs.lookup f) (mA f)
 | .rng lo hi=>∃t u v,h.get? a=some {cls:= .type "range",data:= .fields #[.int lo t,.int hi u,.int 1 v]}
 | .frz o u=>h.get? a=some o/\bQ H h a u
 | .tbl ps=>h.get? a=some {cls:= .none,data:= .fields ps}
 | .met f x=>h.get? a=some (PySem.W.methodObj (.ref f)<|.ref x)
 | .ext φ=>φ h/\(∃o,h.get? a=some o)/\∀h1 h2:Heap,φ h1->(∀o,h1.get? a=some o->h2.get? a=some o)->φ h2
def ij(H:Hp)(h:Heap):Prop:=∀a o,H a=some o->bQ P w H h a o
end
section
variable{P:Program}{w:World}{H H':Hp}{h h':Heap}{a:Addr}{o:HO}
theorem bQ.lt(x:bQ P w H h a o):a<h.objs.size:=by
 cases o with
 |lst xs=>obtain⟨_,_,_,_,e⟩:=x;exact au e
 |tup xs=>obtain⟨_,_,_,p⟩:=x;exact p.lt
 |set S n=>obtain⟨o,_,_,_,e,_⟩:=x;exact au e
 |ins C dx fs=>obtain⟨_,_,_,e,_⟩:=x;exact au e
 |own y=>obtain⟨_,e⟩:=x;exact au e
 |xd fs=>obtain⟨_,⟨_,_,_,e,_⟩,_⟩:=x;exact au e
 |rng lo hi=>obtain⟨_,_,_,e⟩:=x;exact au e
 |frz ob u=>obtain⟨e,_⟩:=x;exact au e
 |tbl ps=>exact au (show h.get? a=some _ from x)
 |met f y=>exact au (show h.get? a=some _ from x)
 |ext φ=>obtain⟨_,⟨_,e⟩,_⟩:=x;exact au e
 |_=>obtain⟨_,_,_,_,o,_,_,e,_⟩:=x;exact au e
theorem Paired.mapP{α β:Type}{F G:α->β->Prop}:∀{l₁:List α}{l₂:List β},Paired F l₁ l₂->(∀a b,F a b->G a b)->Paired G l₁ l₂
 |_,_,.nil,_=>.nil
 |_,_,.cons r t,f=>.cons (f _ _ r)<|Paired.mapP t f
theorem bQ.stay(x:bQ P w H h a o)(k:∀b u,(b=a∨H b=some (.own a))->h.get? b=some u->h'.get? b=some u)
  (ho:∀b,H b=some (.own a)->H' b=some (.own a))(ht:∀b xs,H b=some (.tup xs)->H' b=some (.tup xs)):bQ P w H' h' a o:=by
 induction o with
 |lst xs=>obtain⟨z,its,n,r,e⟩:=x;exact⟨z,its,n,r,k _ _ (.inl rfl) e⟩
 |tup xs=>obtain⟨z,its,r,B,e,c⟩:=x;exact⟨z,its,r,B,k _ _ (.inl rfl) e,c⟩
 |dK kvs=>obtain⟨z,y,vs,r,B,es,ep,e,c⟩:=x;exact⟨z,y,vs,r,B,es,ep,k _ _ (.inl rfl) e,c⟩
 |dT kvs=>obtain⟨z,y,xs,r,B,es,ep,e,c⟩:=x;exact⟨z,y,xs,Paired.mapP r λp q z=>⟨z.1,ht _ _ z.2.1,z.2.2⟩,B,es,ep,k _ _ (.inl rfl) e,c⟩
 |set S n=>obtain⟨B,es,ep,t,e,c⟩:=x;exact⟨B,es,ep,t,k _ _ (.inl rfl) e,c⟩
 |ins C dx fs=>obtain⟨d,z,ne,e,mA,⟨F,es,ep,I,c⟩,r⟩:=x;exact⟨ho _ d,z,ne,k _ _ (.inl rfl) e,mA,⟨F,es,ep,k _ _ (.inr d) I,c⟩,r⟩
 |own y=>obtain⟨B,e⟩:=x;exact⟨B,k _ _ (.inl rfl) e⟩
 |xd fs=>obtain⟨mA,⟨F,es,ep,e,c⟩,r⟩:=x;exact⟨mA,⟨F,es,ep,k _ _ (.inl rfl) e,c⟩,r⟩
 |rng lo hi=>obtain⟨t,u,v,e⟩:=x;exact⟨t,u,v,k _ _ (.inl rfl) e⟩
 |frz B u ih=>obtain⟨e,q⟩:=x;exact⟨k _ _ (.inl rfl) e,ih q⟩
 |tbl ps=>have e:h.get? a=some {cls:= .none,data:= .fields ps}:=x;show h'.get? a=some {cls:= .none,data:= .fields ps};exact k a _ (.inl rfl) e
 |met f y=>have e:h.get? a=some (PySem.W.methodObj (.ref f)<|.ref y):=x;show h'.get? a=some (PySem.W.methodObj (.ref f)<|.ref y);exact k a _ (.inl rfl) e
 |ext φ=>obtain⟨p,⟨o,e⟩,st⟩:=x;exact⟨st _ _ p λo q=>k _ _ (.inl rfl) q,⟨o,k _ _ (.inl rfl) e⟩,st⟩
theorem ij.lt(x:ij P w H h)(e:H a=some o):a<h.objs.size:=(x a o e).lt
theorem ij.fresh(x:ij P w H h)(e:h.objs.size<=a):H a=none:=by
 cases q:H a with
 |none=>rfl
 |some u=>exact absurd (ao (x.lt q) e)<|a8 _
theorem ij.kept(x:ij P w H h)(k:∀b u,h.get? b=some u->h'.get? b=some u):ij P w H h':=λa o e=>
 (x a o e).stay (λb u _ q=>k b u q) (λ_ q=>q) λ_ _ q=>q
theorem ij.laid(x:ij P w H h)(k:∀b u,h.get? b=some u->h'.get? b=some u)(B:h.objs.size<=a)(new:bQ P w (upd H a o) h' a o):ij P w (upd H a o) h':=λb u e=>by
 have z:=x.fresh B;by_cases hb:b=a
 .subst hb;rw[bf] at e;cases e;exact new
 .rw[aI hb] at e;exact(x b u e).stay (λc v _ q=>k c v q) (λc q=>by rw[aI<|aN q z];exact q) λc xs q=>by rw[aI<|aN q z];exact q
end
def Rd(H:Hp)(a:Addr)(u:HO):Prop:=H a=some u∨∃o,H a=some (.frz o u)
theorem Rd.ok{H:Hp}{u:HO}(r:Rd H a u)(x:ij P w H h):bQ P w H h a u:=by
 rcases r with r|⟨o,r⟩
 .exact x a u r
 .obtain⟨_,q⟩:=x a _ r;exact q
noncomputable def DQ:Option HO->Prop
 |some (.lst _)=>True
 |some (.dK _)=>True
 |some (.dT _)=>True
 |some (.set _ _)=>True
 |some (.ins _ _ _)=>True
 |some (.ext _)=>True
 |_=>False
section
variable{P:Program}{w:World}{H:Hp}{h h':Heap}{x e:Addr}{o':HO}
theorem ij.write(ok:ij P w H h)(B:DQ (H x))(U:e=x∨H e=some (.own x))(k:∀b u,b≠e->h.get? b=some u->h'.get? b=some u)(I:∃u,h'.get? e=some u)
  (new:bQ P w (upd H x o') h' x o'):ij P w (upd H x o') h':=λb u q=>by
 have nown:∀c y,H c=some (.own y)->c≠x:=λc y r z=>by subst z;rw[r] at B;exact B
 have ntup:∀c xs,H c=some (.tup xs)->c≠x:=λc xs r z=>by subst z;rw[r] at B;exact B
 by_cases hb:b=x
 .subst hb;rw[bf] at q;cases q;exact new
 .rw[aI hb] at q;by_cases hbe:b=e
  .have J:H b=some (.own x):=by
    rcases U with z|z
    .exact absurd (hbe.trans z) hb
    .rw[hbe];exact z
   rw[q] at J;cases J;obtain⟨v,Y⟩:=I;exact⟨v,by rw[hbe];exact Y⟩
  .refine(ok b u q).stay (λc v F r=>k c v ?_ r) (λc r=>by rw[aI<|nown c b r];exact r) λc xs r=>by rw[aI<|ntup c xs r];exact r
   rcases F with rfl|F
   .exact hbe
   .rintro rfl;rcases U with z|z
    .exact nown c b F z
    .rw[F] at z;cases z;exact hb rfl
end
structure Un(fs ex:List Addr)(H H':Hp)(h h':Heap):Prop where
 keep:∀b o,h.get? b=some o->H b=none->b∉fs->b∉ex->h'.get? b=some o
 slot:∀b o,h.get? b=some o->H b=none->b∈fs->b∉ex->∃sl,h'.get? b=some {o with slots:=sl}
 free:∀b o,h.get? b=some o->H b=none->b∉ex->H' b=none
 there:∀b o,h.get? b=some o->b∉ex->∃o',h'.get? b=some o'
 tups:∀b xs,H b=some (.tup xs)->H' b=some (.tup xs)
 frzs:∀b o u,H b=some (.frz o u)->H' b=some (.frz o u)
 tbls:∀b ps,H b=some (.tbl ps)->∃more,H' b=some (.tbl<|ps++more)
section
variable{fs ex:List Addr}{H H1:Hp}{h h1 h':Heap}{a x e:Addr}{o:HO}
theorem Un.any(u:Un fs ex H H1 h h1){c:Obj}(q:h.get? b=some c)(n:H b=none)(z:b∉ex):∃sl,h1.get? b=some {c with slots:=sl}:=by
 by_cases hb:b∈fs
 .exact u.slot b c q n hb z
 .exact⟨c.slots,u.keep b c q n hb z⟩
theorem Un.kept(k:∀b u,h.get? b=some u->h'.get? b=some u):Un fs ex H H h h':=
 ⟨λb c q _ _ _=>k b c q,λb c q _ _ _=>⟨c.slots,k b c q⟩,λ_ _ _ n _=>n,λb c q _=>⟨c,k b c q⟩,λ_ _ q=>q,λ_ _ _ q=>q,λ_ ps q=>⟨#[],by rw[q];simp⟩⟩
theorem Un.refl:Un fs ex H H h h:=Un.kept λ_ _ q=>q
theorem Un.laid(k:∀b u,h.get? b=some u->h'.get? b=some u)(z:h.objs.size<=a)(c:H a=none):Un fs ex H (upd H a o) h h' where
 keep:=λb u q _ _ _=>k b u q
 slot:=λb u q _ _ _=>⟨u.slots,k b u q⟩
 free:=λb u q n _=>by rw[aI<|aw<|ao (au q) z];exact n
 there:=λb u q _=>⟨u,k b u q⟩
 tups:=λb xs q=>by rw[aI<|aN q c];exact q
 frzs:=λb u xs q=>by rw[aI<|aN q c];exact q
 tbls:=λb ps q=>⟨#[],by rw[aI<|aN q c,q];simp⟩
theorem Un.write(c:DQ (H x))(U:e=x∨H e=some (.own x))(k:∀b u,b≠e->h.get? b=some u->h'.get? b=some u)(F:∃u,h'.get? e=some u):Un fs ex H (upd H x o) h h':=by
 have I:∀b,H b=none->b≠x:=λb n z=>by subst z;rw[n] at c;exact c
 have J:∀b,H b=none->b≠e:=λb n z=>by
  subst z;rcases U with r|r
  .exact I b n r
  .rw[n] at r;cases r
 have B:∀b u,H b=some u->¬DQ (some u)->b≠x:=λb u q nm z=>by subst z;rw[q] at c;exact nm c
 refine⟨λb u q n _ _=>k b u (J b n) q,λb u q n _ _=>⟨u.slots,k b u (J b n) q⟩,λb u q n _=>by rw[aI<|I b n];exact n,λb u q _=>?_,
  λb xs q=>by rw[aI<|B b _ q λz=>z];exact q,λb u xs q=>by rw[aI<|B b _ q λz=>z];exact q,λb ps q=>⟨#[],by rw[aI<|B b _ q λz=>z,q];simp⟩⟩
 by_cases hbe:b=e
 .subst hbe;exact F
 .exact⟨u,k b u hbe q⟩
end
noncomputable def DT(h:Heap)(H:Hp):List Addr:=(range h.objs.size).filter λa=>(H a).isSome
noncomputable def mO(h:Heap)(H:Hp):Heap:=PySem.W.hideAll h<|DT h H
theorem sU(h:Heap)(H:Hp):(mO h H).objs.size=h.objs.size:=PySem.W.hideAll_size _ _
theorem vM{H:Hp}(e:h.get? b=some o)(n:H b=none):(mO h H).get? b=some o:=
 PySem.W.hideAll_get _ e λc=>by have q:(H b).isSome=true:=(mem_filter.mp c).2;rw[n] at q;simp at q
theorem xY{H:Hp}(e:(mO h H).get? b=some o):h.get? b=some o/\H b=none:=by
 have e':h.get? b=some o:=PySem.W.of_hideAll (DT h H) e;refine⟨e',?_⟩;cases q:H b with
 |none=>rfl
 |some x=>
  have c:b∈DT h H:=mem_filter.mpr ⟨mem_range.mpr<|au e',by simp[q]⟩
  have z:(mO h H).get? b=none:=PySem.W.hideAll_none (DT h H) c;rw[z] at e;cases e
noncomputable def yR(g h:Heap)(L:Addr):List (Addr×Obj):=(range h.objs.size).filterMap λa=>if a=L∨(g.get? a).isSome=true then none else(h.get? a).map λo=>(a,o)
def rest(g h:Heap)(L d:Addr):List (Addr×Obj):=(yR g h L).filter λp=>decide<|p.1≠d
structure Mod(K:aF)(mg:Str->Option Value)(base:Heap):Prop where
 kin:K.In base
 glob:base.Ns mainGlobals mg
 blt:∃mb,base.Ns builtinsNs mb/\∀x:Str,x≠ "__name__" ->mb x=bootBuiltins x
 nolimit:base.NoLimit
structure Cx where
 prog:Program
 w:World
 K:aF
 mg:Str->Option Value
 base:Heap
 A:Around
 N:List Str
 s₀:Shared
 H₀:Hp
 env:Env
 outer:List Env
 stack:List Env
 ex:List Addr
 fn:Str->Bool
 calm:Bool
 pn:List (Addr×Obj)
 xe:Value->Shared->Prop
noncomputable def tF(l:List Env):List Addr:=l.filterMap (·.frame)
abbrev Cx.fs(X:Cx):List Addr:=tF X.outer
noncomputable def DZ(sc:Scope)(x:Str):Prop:=sc.names.lookup x=some .local∨sc.names.lookup x=some .cell∨sc.names.lookup x=some .free
noncomputable def Loc(sc:Scope)(x:Str):Prop:=sc.names.lookup x=some .local∨sc.names.lookup x=some .cell
noncomputable def Look(env:Env)(h:Heap)(m:Str->Option Value)(x:Str)(u:Value):Prop:=
 (env.kindOf x=some .local/\m x=some u)∨((env.kindOf x=some .cell∨env.kindOf x=some .free)/\∃c,env.cells.lookup x=some c/\h.IsCell c (some u))
structure Cx.Ok(X:Cx):Prop where
 mod:Mod X.K X.mg X.base
 kind:X.env.scope.kind=.function
 glob:X.env.globals=mainGlobals
 blt:X.env.builtins=builtinsNs
 above:X.s₀.heap.objs.size<=X.env.locals
 inj:∀x y c,X.env.cells.lookup x=some c->X.env.cells.lookup y=some c->x=y
 has:∀x,(X.env.kindOf x=some .cell∨X.env.kindOf x=some .free)->∃c,X.env.cells.lookup x=some c
 cab:∀x c,X.fn x=true->X.env.cells.lookup x=some c->X.s₀.heap.objs.size<=c
 hd:X.calm=true->X.A.handled=none
 frames:X.A.frames=some X.stack
 stk:X.stack=X.outer∨(X.stack=X.env::X.outer/\X.env.frame=some X.env.locals)
 exf:∀b∈X.ex,b≠X.env.locals/\∀x c,X.env.cells.lookup x=some c->c≠b
 bs:∀b o,X.base.get? b=some o->X.s₀.heap.get? b=some o/\X.H₀ b=none
 bsz:X.base.objs.size<=X.s₀.heap.objs.size
 noex:∀b o,X.base.get? b=some o->b∉X.ex
 exfs:∀b∈X.ex,b∉X.fs
 funs:X.s₀.heap.FunFrames X.base X.outer
 frf:∀b∈X.fs,X.H₀ b=none
structure Inv(X:Cx)(pins:List (Addr×Obj))(W:List (Option V))(H:Hp)(s:Shared):Prop where
 ok:X.Ok
 os:s.os=X.s₀.os
 bare:AllBare s.gens
 base:Un X.fs X.ex X.H₀ H X.s₀.heap s.heap
 loc:∃m,s.heap.Ns X.env.locals m/\∀(i:Nat)(x:Str)(v:V),X.N[i]? =some x->W[i]? =some (some v)->DZ X.env.scope x->∃u,RelV v u/\Look X.env s.heap m x u
 cell:∀x c,X.env.cells.lookup x=some c->∃v,s.heap.IsCell c v
 free:H X.env.locals=none
 freeC:∀x c,X.env.cells.lookup x=some c->H c=none
 pin:∀p∈X.pn++pins,s.heap.get? p.1=some p.2/\H p.1=none/\p.1≠X.env.locals/\p.1∉X.fs/\∀v,p.2.data≠ .cell v
 hok:ij X.prog X.w H s.heap
 len:W.length=X.N.length
section
variable{X:Cx}{pins:List (Addr×Obj)}{W:List (Option V)}{H H':Hp}{s:Shared}{h':Heap}
theorem Cx.Ok.nofr(ok:X.Ok)(e:X.base.get? b=some o):b∉X.fs:=λc=>by have:=(ok.funs.mem c).1;rw[e] at this;cases this
theorem Inv.bs(I:Inv X pins W H s):∀b o,X.base.get? b=some o->s.heap.get? b=some o/\H b=none:=λb o e=>
 ⟨I.base.keep b o (I.ok.bs b o e).1 (I.ok.bs b o e).2 (I.ok.nofr e)<|I.ok.noex b o e,I.base.free b o (I.ok.bs b o e).1 (I.ok.bs b o e).2<|I.ok.noex b o e⟩
theorem Inv.bk(I:Inv X pins W H s):∀b o,X.base.get? b=some o->s.heap.get? b=some o:=λb o e=>(I.bs b o e).1
theorem Inv.mod(I:Inv X pins W H s):Mod X.K X.mg X.base:=I.ok.mod
theorem Inv.kIn(I:Inv X pins W H s):X.K.In s.heap:=I.ok.mod.kin.keeps I.bk
theorem Inv.lt(I:Inv X pins W H s):X.env.locals<s.heap.objs.size:=let⟨_,hn,_⟩:=I.loc;hn.lt
theorem Inv.sz(I:Inv X pins W H s):X.s₀.heap.objs.size<=s.heap.objs.size:=aM I.ok.above<|le_of_lt I.lt
theorem Inv.nofs(I:Inv X pins W H s)(h:s.heap.objs.size<=a):a∉X.fs:=λc=>by obtain⟨_,o,ho,_⟩:=I.ok.funs.mem c;exact absurd (ao (au ho)<|aM I.sz h)<|a8 _
theorem Inv.cne(I:Inv X pins W H s):∀x c,X.env.cells.lookup x=some c->c≠X.env.locals:=λx c e z=>by obtain⟨v,o,ho,hd⟩:=I.cell x c e;obtain⟨m,⟨o',es,ep,B,F,_⟩,_⟩:=I.loc;rw[z,B] at ho;cases ho;rw[F] at hd;cases hd
theorem Inv.funs(I:Inv X pins W H s):s.heap.FunFrames X.base X.outer:=by
 have all:∀(l:List Env),(∀b∈tF l,b∈X.fs)->X.s₀.heap.FunFrames X.base l->s.heap.FunFrames X.base l:=by
  intro l
  induction l with
  |nil=>intro _ _;trivial
  |cons env r ih=>
   intro hs Y;obtain⟨Z,⟨L,o,c,U,ho,hd⟩,J⟩:=Y;have F:L∈X.fs:=hs L (by unfold tF;rw[filterMap_cons,c];exact mem_cons_self)
   obtain⟨sl,e⟩:=I.base.slot L o ho (I.ok.frf L F) F λz=>I.ok.exfs L z F;exact⟨Z,⟨L,_,c,U,e,hd⟩,ih (λb B=>hs b (by unfold tF;rw[filterMap_cons,c];exact mem_cons_of_mem _ B)) J⟩
 exact all X.outer (λ_ B=>B) I.ok.funs
theorem Inv.stack(I:Inv X pins W H s):s.heap.FunFrames X.base X.stack:=by
 rcases I.ok.stk with e|⟨e,hf⟩
 .rw[e];exact I.funs
 .rw[e];obtain⟨m,c,_⟩:=I.loc;refine .cons (by rw[I.ok.kind];decide) hf c ?_ I.funs
  exact Heap.get?_none_of_le<|aM I.ok.bsz I.ok.above
theorem Inv.stkSub(I:Inv X pins W H s):∀b∈tF X.stack,b∈X.env.locals::X.fs:=λb c=>by
 rcases I.ok.stk with e|⟨e,hf⟩
 .rw[e] at c;exact mem_cons_of_mem _ c
 .rw[e] at c;unfold tF at c;rw[filterMap_cons,hf] at c;exact c
theorem Inv.stkFree(I:Inv X pins W H s):∀b∈tF X.stack,H b=none:=λb c=>by
 rcases mem_cons.mp (I.stkSub b c) with e|c
 .rw[e];exact I.free
 .obtain⟨_,o,ho,_⟩:=I.ok.funs.mem c;exact I.base.free b o ho (I.ok.frf b c) λz=>I.ok.exfs b z c
theorem Inv.step{g':Array GenState}{d':Drawn}(I:Inv X pins W H s)
  (J:∀b∈ch,(b∈X.ex∨X.s₀.heap.objs.size<=b)/\b≠X.env.locals/\(∀x c,X.env.cells.lookup x=some c->c≠b)/\∀p∈X.pn++pins,p.1≠b)
  (keep:∀b o,b≠X.env.locals->b∉X.fs->b∉ch->s.heap.get? b=some o->H b=none->h'.get? b=some o)
  (slot:∀b o,b≠X.env.locals->b∈X.fs->b∉ch->s.heap.get? b=some o->H b=none->∃sl,h'.get? b=some {o with slots:=sl})(free:∀b o,b∉ch->s.heap.get? b=some o->H b=none->H' b=none)
  (there:∀b o,b∉ch->s.heap.get? b=some o->∃o',h'.get? b=some o')
  (tups:∀b xs,H b=some (.tup xs)->H' b=some (.tup xs))(frzs:∀b o u,H b=some (.frz o u)->H' b=some (.frz o u))(tbls:∀b ps,H b=some (.tbl ps)->∃more,H' b=some (.tbl<|ps++more))
  (ns:∀m,s.heap.Ns X.env.locals m->h'.Ns X.env.locals m)(hok:ij X.prog X.w H' h')(hg:AllBare g'):
  Inv X pins W H' {s with heap:=h',gens:=g',drawn:=d',toks:=t'}:=by
 have neL:∀b o,X.s₀.heap.get? b=some o->b≠X.env.locals:=λb o e=>aw<|ao (au e) I.ok.above
 have U:∀b o,X.s₀.heap.get? b=some o->b∉X.ex->b∉ch:=λb o e B Z=>by
  rcases(J b Z).1 with z|z
  .exact B z
  .exact absurd (ao (au e) z)<|a8 _
 have cellK:∀x c,X.env.cells.lookup x=some c->∀v,s.heap.IsCell c v->h'.IsCell c v:=λx c e v hp=>by
  obtain⟨o,ho,hd⟩:=hp;have F:c∉ch:=λz=>(J c z).2.2.1 x c e rfl;by_cases hc:c∈X.fs
  .obtain⟨sl,q⟩:=slot c o (I.cne x c e) hc F ho<|I.freeC x c e;exact⟨_,q,hd⟩
  .exact⟨o,keep c o (I.cne x c e) hc F ho<|I.freeC x c e,hd⟩
 refine⟨I.ok,I.os,hg,⟨λb o e n Z B=>?_,λb o e n Z B=>?_,λb o e n B=>?_,λb o e B=>?_,λb xs e=>tups b xs<|I.base.tups b xs e,λb o xs e=>frzs b o xs<|I.base.frzs b o xs e,λb ps e=>?_⟩,?_,λx c e=>?_,?_,λx c e=>?_,λp hp=>?_,hok,I.len⟩
 .exact keep b o (neL b o e) Z (U b o e B) (I.base.keep b o e n Z B)<|I.base.free b o e n B
 .obtain⟨sl,Y⟩:=I.base.slot b o e n Z B;obtain⟨sl',e2⟩:=slot b _ (neL b o e) Z (U b o e B) Y<|I.base.free b o e n B;exact⟨sl',e2⟩
 .obtain⟨o',Y⟩:=I.base.there b o e B;exact free b o' (U b o e B) Y<|I.base.free b o e n B
 .obtain⟨o',Y⟩:=I.base.there b o e B;exact there b o' (U b o e B) Y
 .obtain⟨m1,Y⟩:=I.base.tbls b ps e;obtain⟨m2,e2⟩:=tbls b _ Y;exact⟨m1++m2,by rw[e2,Array.append_assoc]⟩
 .obtain⟨m,hn,hl⟩:=I.loc;refine⟨m,ns m hn,λi x v Y e2 e3=>?_⟩;obtain⟨u,r,l⟩:=hl i x v Y e2 e3;refine⟨u,r,?_⟩;rcases l with l|⟨k,c,e,z⟩
  .exact .inl l
  .exact .inr ⟨k,c,e,cellK x c e _ z⟩
 .obtain⟨v,z⟩:=I.cell x c e;exact⟨v,cellK x c e v z⟩
 .obtain⟨m,⟨o,_,_,ho,_⟩,_⟩:=I.loc;exact free _ o (λz=>(J _ z).2.1 rfl) ho I.free
 .obtain⟨v,o,ho,hd⟩:=I.cell x c e;exact free c o (λz=>(J c z).2.2.1 x c e rfl) ho<|I.freeC x c e
 .obtain⟨e,n,ne,nf,d⟩:=I.pin p hp;have F:p.1∉ch:=λz=>(J p.1 z).2.2.2 p hp rfl;exact⟨keep p.1 p.2 ne nf F e n,free p.1 p.2 F e n,ne,nf,d⟩
theorem Inv.un(I:Inv X pins W H s)(u:Un X.fs [] H H' s.heap h')(B:ij X.prog X.w H' h'):Inv X pins W H' {s with heap:=h',toks:=t'}:=by
 obtain⟨m,⟨o,es,ep,ho,r⟩,_⟩:=id I.loc;obtain⟨sl,hL⟩:=u.any ho I.free (by simp)
 exact I.step (g':=s.gens) (d':=s.drawn) (ch:=[]) (λ_ z=>nomatch z) (λb o _ F _ e n=>u.keep b o e n F (by simp)) (λb o _ F _ e n=>u.slot b o e n F (by simp)) (λb o _ e n=>u.free b o e n (by simp)) (λb o _ e=>u.there b o e (by simp)) u.tups u.frzs u.tbls (λm' Z=>by obtain⟨o',J,U,c,Y⟩:=Z;rw[ho] at c;cases c;exact⟨_,J,U,hL,Y⟩) B I.bare
theorem Inv.call{g':Array GenState}{d':Drawn}(I:Inv X pins W H s)(u:Un (tF X.stack) ch H H' s.heap h')(U:ij X.prog X.w H' h')(hg:AllBare g')
  (J:∀b∈ch,(b∈X.ex∨X.s₀.heap.objs.size<=b)/\b≠X.env.locals/\(∀x c,X.env.cells.lookup x=some c->c≠b)/\∀p∈X.pn++pins,p.1≠b):
  Inv X pins W H' {s with heap:=h',gens:=g',drawn:=d',toks:=t'}:=by
 obtain⟨m,⟨o,es,ep,ho,r⟩,_⟩:=id I.loc;obtain⟨sl,Y⟩:=u.any ho I.free λz=>(J _ z).2.1 rfl
 exact I.step (ch:=ch) J (λb o Y hb B e n=>u.keep b o e n (λz=>(mem_cons.mp<|I.stkSub b z).elim Y hb) B) (λb o _ _ B e n=>u.any e n B) (λb o B e n=>u.free b o e n B) (λb o B e=>u.there b o e B) u.tups u.frzs u.tbls (λm' hm=>by obtain⟨o',Z,ep',F,r'⟩:=hm;rw[ho] at F;cases F;exact⟨_,Z,ep',Y,r'⟩) U hg
theorem Inv.turned(I:Inv X pins W H s)(k:∀b o,b≠it->s.heap.get? b=some o->h'.get? b=some o)(U:H it=none)(J:it≠X.env.locals)
  (h1:it∈X.ex∨X.s₀.heap.objs.size<=it)(h2:∀x c,X.env.cells.lookup x=some c->c≠it)(h3:∀p∈X.pn++pins,p.1≠it):Inv X pins W H {s with heap:=h',toks:=t'}:=by
 have F:∀b u,H b=some u->b≠it:=λb u e z=>by rw[z,U] at e;cases e
 refine I.step (g':=s.gens) (d':=s.drawn) (ch:=[it]) (λb Z=>?_) (λb o _ _ B e _=>k b o (λz=>B (by simp[z])) e) (λb o _ _ B e _=>⟨o.slots,k b o (λz=>B (by simp[z])) e⟩) (λ_ _ _ _ n=>n)
  (λb o B e=>⟨o,k b o (λz=>B (by simp[z])) e⟩) (λ_ _ e=>e) (λ_ _ _ e=>e) (λb ps e=>⟨#[],by rw[e];simp⟩) (λm Y=>?_) (λb u e=>?_) I.bare
 .have e:b=it:=by simpa using Z
  subst e;exact⟨h1,J,h2,h3⟩
 .obtain⟨o,es,ep,ho,r⟩:=Y;exact⟨o,es,ep,k _ o (Ne.symm J) ho,r⟩
 .refine(I.hok b u e).stay (λc v B q=>k c v ?_ q) (λ_ q=>q) λ_ _ q=>q;rcases B with z|z
  .rw[z];exact F b u e
  .exact F c _ z
theorem Inv.tok(I:Inv X pins W H s)(t:Nat):Inv X pins W H {s with toks:=t}:=I.un (h':=s.heap) (t':=t) Un.refl I.hok
theorem Inv.kept(I:Inv X pins W H s)(k:∀b u,s.heap.get? b=some u->h'.get? b=some u):Inv X pins W H {s with heap:=h',toks:=t'}:=I.un (Un.kept k)<|I.hok.kept k
theorem Inv.laid{o:HO}(I:Inv X pins W H s)(k:∀b u,s.heap.get? b=some u->h'.get? b=some u)(c:s.heap.objs.size<=a)(new:bQ X.prog X.w (upd H a o) h' a o):
  Inv X pins W (upd H a o) {s with heap:=h',toks:=t'}:=I.un (Un.laid k c<|I.hok.fresh c)<|I.hok.laid k c new
theorem Inv.write{x e:Addr}{o:HO}(I:Inv X pins W H s)(z:DQ (H x))(B:e=x∨H e=some (.own x))(k:∀b u,b≠e->s.heap.get? b=some u->h'.get? b=some u)(c:∃u,h'.get? e=some u)
  (new:bQ X.prog X.w (upd H x o) h' x o):Inv X pins W (upd H x o) {s with heap:=h',toks:=t'}:=I.un (Un.write z B k c)<|I.hok.write z B k c new
theorem Inv.pins_of{pins':List (Addr×Obj)}(I:Inv X pins W H s)(h:∀p∈pins',s.heap.get? p.1=some p.2/\H p.1=none/\p.1≠X.env.locals/\p.1∉X.fs/\∀v,p.2.data≠ .cell v):Inv X pins' W H s:=
 ⟨I.ok,I.os,I.bare,I.base,I.loc,I.cell,I.free,I.freeC,λp c=>(mem_append.mp c).elim (λz=>I.pin p<|aR _ z)<|h p,I.hok,I.len⟩
theorem n5{N:List Str}(c:N.Nodup)(a:N[i]? =some x)(b:N[j]? =some x):i=j:=by obtain⟨h1,B⟩:=aq a;obtain⟨h2,z⟩:=aq b;exact(List.getElem_inj c).mp<|B.trans z.symm
theorem lm{M:Model}{v:V}{Q:Unit->Shared->Prop}(I:Inv X pins W H s)(hN:X.N.Nodup)(hi:X.N[i]? =some x)(J:Loc X.env.scope x)(r:RelV v u)
  (h:∀s',Inv X pins (W.set i<|some v) H s'->(∃a,Heap.SameBut a s.heap s'.heap/\(a=X.env.locals∨X.env.cells.lookup x=some a))->Q () s')(hf:X.fn x=true∨X.env.scope.names.lookup x=some .local:=by first|exact .inl rfl|exact .inr rfl|assumption):wpAny M A (storeName X.env x u) Q E s:=by
 obtain⟨m,hn,hl⟩:=id I.loc;have hcls:(X.env.scope.kind== .class||(X.env.scope.kind== .module&&X.env.locals !=X.env.globals))=false:=by rw[I.ok.kind];rfl
 have hiW:i<W.length:=by rw[I.len];exact(aq hi).1
 have cne:=I.cne
 have tracked:∀{a:Addr}{h':Heap},(∃o,s.heap.get? a=some o/\H a=none)->Heap.SameBut a s.heap h'->ij X.prog X.w H h':=λ{a h'} ha hs b ob e=>by
  obtain⟨_,_,U⟩:=ha;refine(I.hok b ob e).stay (λc w' F q=>(hs.2 c ?_).trans q) (λ_ q=>q) λ_ _ q=>q;rintro rfl;rcases F with rfl|F
  .rw[U] at e;cases e
  .rw[U] at F;cases F
 rcases J with hk|hk
 .refine wpAny_storeName_local hk hn (λh' hn' hs=>?_) hcls;obtain⟨oL,_,_,hoL,_⟩:=id hn;refine h _ ⟨I.ok,I.os,I.bare,⟨λb o e n hb J=>?_,λb o e n hb J=>?_,I.base.free,λb o e J=>?_,I.base.tups,I.base.frzs,I.base.tbls⟩,⟨_,hn',λj y v' B Y e3=>?_⟩,λy c e=>?_,I.free,I.freeC,λp hp=>?_,tracked ⟨oL,hoL,I.free⟩ hs,by simpa using I.len⟩ ⟨_,hs,.inl rfl⟩
  .exact(hs.2 b<|aw<|ao (au e) I.ok.above).trans<|I.base.keep b o e n hb J
  .obtain⟨sl,B⟩:=I.base.slot b o e n hb J;exact⟨sl,(hs.2 b<|aw<|ao (au e) I.ok.above).trans B⟩
  .obtain⟨o',B⟩:=I.base.there b o e J;exact⟨o',(hs.2 b<|aw<|ao (au e) I.ok.above).trans B⟩
  .by_cases hj:j=i
   .subst hj;rw[hi] at B;cases B;rw[aK hiW] at Y;cases Y;exact⟨u,r,.inl ⟨hk,by simp⟩⟩
   .rw[aD<|Ne.symm hj] at Y;obtain⟨u',r',q⟩:=hl j y v' B Y e3;refine⟨u',r',?_⟩;rcases q with⟨k,e⟩|⟨k,c,e,z⟩
    .refine .inl ⟨k,?_⟩;have:y≠x:=λe=>hj<|n5 hN B<|e▸hi;simp[this,e]
    .exact .inr ⟨k,c,e,z.sameBut hs<|cne y c e⟩
  .obtain⟨w',z⟩:=I.cell y c e;exact⟨w',z.sameBut hs<|cne y c e⟩
  .obtain⟨e,n,ne,nf,d⟩:=I.pin p hp;exact⟨(hs.2 p.1 ne).trans e,n,ne,nf,d⟩
 .have Z:X.fn x=true:=by
   rcases hf with z|z
   .exact z
   .rw[z] at hk;cases hk
  obtain⟨c,F⟩:=I.ok.has x<|.inl hk;obtain⟨w',z⟩:=I.cell x c F;refine wpAny_storeName_cell I.ok.kind hk F z<|λh' hc' hs=>?_;obtain⟨oc,hoc,hocd⟩:=id z;refine h {s with heap:=h'} ⟨I.ok,I.os,I.bare,⟨λb o e n hb J=>?_,λb o e n hb J=>?_,I.base.free,λb o e J=>?_,I.base.tups,I.base.frzs,I.base.tbls⟩,⟨m,hn.sameBut hs<|Ne.symm<|cne x c F,λj y v' B Y e3=>?_⟩,λy c' e=>?_,I.free,I.freeC,λp hp=>?_,tracked ⟨oc,hoc,I.freeC x c F⟩ hs,by simpa using I.len⟩ ⟨c,hs,.inr F⟩
  .exact(hs.2 b<|aw<|ao (au e)<|I.ok.cab x c Z F).trans<|I.base.keep b o e n hb J
  .obtain⟨sl,B⟩:=I.base.slot b o e n hb J;exact⟨sl,(hs.2 b<|aw<|ao (au e)<|I.ok.cab x c Z F).trans B⟩
  .obtain⟨o',B⟩:=I.base.there b o e J;exact⟨o',(hs.2 b<|aw<|ao (au e)<|I.ok.cab x c Z F).trans B⟩
  .by_cases hj:j=i
   .subst hj;rw[hi] at B;cases B;rw[aK hiW] at Y;cases Y;exact⟨u,r,.inr ⟨.inl hk,c,F,hc'⟩⟩
   .rw[aD<|Ne.symm hj] at Y;obtain⟨u',r',q⟩:=hl j y v' B Y e3;refine⟨u',r',?_⟩;rcases q with q|⟨k,c',e,z'⟩
    .exact .inl q
    .refine .inr ⟨k,c',e,z'.sameBut hs ?_⟩;rintro rfl;exact hj<|n5 hN B<|I.ok.inj _ _ _ e F▸hi
  .by_cases hcc:c'=c
   .subst hcc;exact⟨_,hc'⟩
   .obtain⟨w2,z2⟩:=I.cell y c' e;exact⟨w2,z2.sameBut hs hcc⟩
  .obtain⟨e,n,ne,nf,d⟩:=I.pin p hp;refine⟨(hs.2 p.1 ?_).trans e,n,ne,nf,d⟩;intro q;rw[q,hoc] at e;have q':oc=p.2:=ak e;exact d w' (by rw[<-q'];exact hocd)
theorem nQ{M:Model}{v:V}{Q:Unit->Shared->Prop}(I:Inv X pins W H s)(B:X.N.Nodup)(hi:X.N[i]? =some x)(c:Loc X.env.scope x)(r:RelV v u)
  (h:∀s',Inv X pins (W.set i<|some v) H s'->Q () s')(z:X.fn x=true∨X.env.scope.names.lookup x=some .local:=by first|exact .inl rfl|exact .inr rfl|assumption):wpAny M A (storeName X.env x u) Q E s:=
 lm I B hi c r (λs' F _=>h s' F) z
theorem Inv.call'{s':Shared}(I:Inv X pins W H s)(ho:s'.os=s.os)(u:Un (tF X.stack) ch H H' s.heap s'.heap)(z:ij X.prog X.w H' s'.heap)(F:AllBare s'.gens)
  (B:∀b∈ch,(b∈X.ex∨X.s₀.heap.objs.size<=b)/\b≠X.env.locals/\(∀x c,X.env.cells.lookup x=some c->c≠b)/\∀p∈X.pn++pins,p.1≠b):Inv X pins W H' s':=by
 obtain⟨h',g',d',t',o'⟩:=s';have e:o'=s.os:=ho;subst e;exact I.call (g':=g') (t':=t') (d':=d') u z F B
end
abbrev XK:=Value->Option Addr->Hp->Prop
noncomputable abbrev St:=List<|Option V
abbrev VK:=V->Hp->Prop
abbrev TE:=St->Hp->VK->Prop
abbrev TT:=St->Hp->(Bool->Hp->Prop)->Prop
abbrev TA:=St->Hp->(List V->Hp->Prop)->Prop
structure Ends where
 nx:St->Hp->Prop
 rt:VK
 bk:St->Hp->Prop:=λ_ _=>False
 ct:St->Hp->Prop:=λ_ _=>False
abbrev TS:=Ends->St->Hp->Prop
def EP(X:Cx)(pins:List (Addr×Obj))(W:St)(Q:VK)(u:Value)(s':Shared):Prop:=∃v H',Inv X pins W H' s'/\RelV v u/\Q v H'
def TP(X:Cx)(pins:List (Addr×Obj))(W:St)(Q:Bool->Hp->Prop)(b:Bool)(s':Shared):Prop:=∃H',Inv X pins W H' s'/\Q b H'
def AP(X:Cx)(pins:List (Addr×Obj))(W:St)(Q:List V->Hp->Prop)(us:List Value)(s':Shared):Prop:=∃vs H',Inv X pins W H' s'/\bn vs us/\Q vs H'
def SP(X:Cx)(pins:List (Addr×Obj))(D:Ends)(f:Flow)(s':Shared):Prop:=
 match f with
 | .next=>∃W' H',Inv X pins W' H' s'/\D.nx W' H'
 | .brk=>∃W' H',Inv X pins W' H' s'/\D.bk W' H'
 | .cont=>∃W' H',Inv X pins W' H' s'/\D.ct W' H'
 | .ret u=>∃v W' H',Inv X pins W' H' s'/\RelV v u/\D.rt v H'
def PE(X:Cx)(e:Expr)(t:TE):Prop:=
 ∀(pins:List (Addr×Obj))(s:Shared)(W:St)(H:Hp)(Q:VK),Inv X pins W H s->t W H Q->wpAny (model X.prog X.w) X.A (eval e X.env) (EP X pins W Q) X.xe s
def PT(X:Cx)(e:Expr)(t:TT):Prop:=
 ∀(pins:List (Addr×Obj))(s:Shared)(W:St)(H:Hp)(Q:Bool->Hp->Prop),Inv X pins W H s->t W H Q->wpAny (model X.prog X.w) X.A (isTrue e X.env<|eval e X.env) (TP X pins W Q) X.xe s
def PW(X:Cx)(e:Expr)(t:TT):Prop:=
 ∀(whole:Sem Value)(pins:List (Addr×Obj))(s:Shared)(W:St)(H:Hp)(Q:Bool->Hp->Prop),Inv X pins W H s->t W H Q->wpAny (model X.prog X.w) X.A (isTrue e X.env whole) (TP X pins W Q) X.xe s
theorem PW.pt{X:Cx}{t:TT}(h:PW X e t):PT X e t:=h _
def PA(X:Cx)(es:List Expr)(t:TA):Prop:=
 ∀(pos:Pos)(pins:List (Addr×Obj))(s:Shared)(W:St)(H:Hp)(Q:List V->Hp->Prop),Inv X pins W H s->t W H Q->wpAny (model X.prog X.w) X.A (spliced<|backTo pos<|starEach es X.env) (AP X pins W Q) X.xe s
def PS(X:Cx)(st:Stmt)(t:TS):Prop:=
 ∀(pins:List (Addr×Obj))(s:Shared)(W:St)(H:Hp)(D:Ends),Inv X pins W H s->t D W H->wpAny (model X.prog X.w) X.A (exec st X.env) (SP X pins D) X.xe s
def PSs(X:Cx)(st:List Stmt)(t:TS):Prop:=
 ∀(pins:List (Addr×Obj))(s:Shared)(W:St)(H:Hp)(D:Ends),Inv X pins W H s->t D W H->wpAny (model X.prog X.w) X.A (execs st X.env) (SP X pins D) X.xe s
theorem bZ{α:Type}{t:Sem α}{Q c:α->Shared->Prop}{M:Model}(h:wpAny M A t Q E s)(z:∀a s,Q a s->c a s):wpAny M A t c E s:=a9 h z λ_ _ x=>x
section
variable{X:Cx}
def Ek(i:Nat):TE:=λW H Q=>∃v,W[i]? =some (some v)/\Q v H
def tC(v:V):TE:=λ_ H Q=>Q v H
theorem Ay(J:X.N[i]? =some x)(z:DZ X.env.scope x)(hd:(x==("__debug__":Str))=false:=by decide)(hcd:(x==("__classdict__":Str))=false:=by decide):PE X (.Name x pos) (Ek i):=by
 intro pins s W H Q I h;obtain⟨v,e,h⟩:=h;obtain⟨m,B,F⟩:=I.loc;obtain⟨u,r,l⟩:=F i x v J e z;have fin:EP X pins W Q u s:=⟨v,H,I,r,h⟩;rcases l with⟨hk,hm⟩|⟨hk,c,hc,hcell⟩
 .exact wpAny_Name (wpAny_loadName_local I.ok.kind hk B hm fin) hd
 .rcases hk with hk|hk
  .exact wpAny_Name (wpAny_loadName_cell I.ok.kind hk hc hcell fin) hd
  .exact wpAny_Name (wpAny_loadName_free I.ok.kind hk hc hcell fin hcd) hd
theorem g_{i j pos}:PE X (.Constant (.int i) j pos) (tC<|.int i):=λ_ _ _ H _ I h=>wpAny_Constant_int ⟨.int i,H,I.tok _,⟨_,rfl⟩,h⟩
theorem CL{b j pos}:PE X (.Constant (.bool b) j pos) (tC<|.bl b):=λ_ _ _ H _ I h=>Constant_bool ⟨.bl b,H,I,rfl,h⟩
theorem AC{j pos}:PE X (.Constant .none j pos) (tC .non):=λ_ _ _ H _ I h=>Constant_none ⟨.non,H,I,rfl,h⟩
theorem vf{x j pos}:PE X (.Constant (.str x) j pos) (tC<|.str x):=λ_ _ _ H _ I h=>Calls.Constant_str ⟨.str x,H,I.tok _,⟨_,rfl⟩,h⟩
noncomputable def Gl(X:Cx)(x:Str):Prop:=X.env.kindOf x=some .globalImplicit
theorem mz{W:St}{H:Hp}(I:Inv X pins W H s)(z:Gl X x)(c:X.mg x=some u)(h:Q u s)
  (hd:(x==("__debug__":Str))=false:=by decide):wpAny (model X.prog X.w) X.A (eval (.Name x pos) X.env) Q E s:=
 Calls.Name_function_global I.ok.kind z (Calls.loadGlobal_global (by rw[I.ok.glob];exact I.mod.glob.keeps I.bk) c h) hd
theorem ft{W:St}{H:Hp}(I:Inv X pins W H s)(F:Gl X x)(B:X.mg x=none)(c:bootBuiltins x=some u)(h:Q u s)
  (z:x≠ "__name__":=by decide) (hd:(x==("__debug__":Str))=false:=by decide):wpAny (model X.prog X.w) X.A (eval (.Name x pos) X.env) Q E s:=by
 obtain⟨J,h1,h2⟩:=I.mod.blt;exact Calls.Name_function_global I.ok.kind F (Calls.loadGlobal_builtin (by rw[I.ok.glob];exact I.mod.glob.keeps I.bk) B (by rw[I.ok.blt];exact h1.keeps I.bk) ((h2 x z).trans c) h) hd
theorem xR{v:V}(z:Gl X x)(c:X.mg x=some u)(r:RelV v u)(hd:(x==("__debug__":Str))=false:=by decide):PE X (.Name x pos) (tC v):=
 λ_ _ _ H _ I h=>mz I z c ⟨v,H,I,r,h⟩ hd
theorem xV{v:V}(F:Gl X x)(B:X.mg x=none)(c:bootBuiltins x=some u)(r:RelV v u)(z:x≠ "__name__":=by decide)(hd:(x==("__debug__":Str))=false:=by decide):PE X (.Name x pos) (tC v):=
 λ_ _ _ H _ I h=>ft I F B c ⟨v,H,I,r,h⟩ z hd
variable{a b:Expr}{ta tb:TE}{pos:Pos}
def tB(t:TE):TT:=λW H Q=>t W H λx H1=>∃c,x=.bl c/\Q c H1
theorem Aq{t:TE}(h:PE X e t)(c:∀whole,isTrue e X.env whole=(do let v <-whole;standAt e.pos;holding [v]<|truthy v):=by intro _;rfl):PT X e (tB t):=by intro pins s W H Q I hw;refine isTrue_plain (bZ (h pins s W H _ I hw) λv z ⟨x,H1,I1,r1,q1⟩=>?_)<|c _;obtain⟨d,rfl,q⟩:=q1;cases r1;exact wpAny_truthy_bool ⟨H1,I1,q⟩
variable{tA tB':TT}{rest:List Expr}
def EA(t u:TT):TT:=λW H Q=>t W H λc H1=>if c=true then u W H1 Q else Q false H1
def FQ(t u:TT):TT:=λW H Q=>t W H λc H1=>if c=true then Q true H1 else u W H1 Q
def Er(t:TT):TT:=λW H Q=>t W H λc H1=>Q (!c) H1
theorem xG(z:PT X a tA):PW X (.BoolOp .And [a] pos) tA:=by
 intro B pins s W H Q I h;refine isTrue_and<|bZ (z pins s W H Q I h) λc F e=>?_;cases c with
 |true=>exact isTrue_and_nil e
 |false=>exact e
theorem An(z:PT X a tA):PW X (.BoolOp .Or [a] pos) tA:=by
 intro B pins s W H Q I h;refine isTrue_or<|bZ (z pins s W H Q I h) λc F e=>?_;cases c with
 |false=>exact isTrue_or_nil e
 |true=>exact e
theorem Ao(J:PT X a tA)(F:PW X (.BoolOp .And (b::rest) pos) tB'):PW X (.BoolOp .And (a::b::rest) pos) (EA tA tB'):=by
 intro z pins s W H Q I h;refine isTrue_and<|bZ (J pins s W H _ I h) λc B ⟨H1,I1,q1⟩=>?_;cases c with
 |true=>exact F z pins B W H1 Q I1 q1
 |false=>exact⟨H1,I1,q1⟩
theorem CD(J:PT X a tA)(F:PW X (.BoolOp .Or (b::rest) pos) tB'):PW X (.BoolOp .Or (a::b::rest) pos) (FQ tA tB'):=by
 intro z pins s W H Q I h;refine isTrue_or<|bZ (J pins s W H _ I h) λc B ⟨H1,I1,q1⟩=>?_;cases c with
 |true=>exact⟨H1,I1,q1⟩
 |false=>exact F z pins B W H1 Q I1 q1
theorem Ar(z:PT X a tA):PT X (.UnaryOp .Not a pos) (Er tA):=by intro pins s W H Q I h;exact isTrue_not<|z pins s W H (λc H1=>Q (!c) H1) I h
def Cj(ta tb:TE):TE:=λW H Q=>ta W H λx H1=>∃c,x=.bl c/\if c=true then tb W H1 Q else Q (.bl false) H1
def Ep(ta tb:TE):TE:=λW H Q=>ta W H λx H1=>∃c,x=.bl c/\if c=true then Q (.bl true) H1 else tb W H1 Q
def Ca(ta:TE):TE:=λW H Q=>ta W H λx H1=>∃c,x=.bl c/\Q (.bl<|!c) H1
theorem AA{op}{t:TE}(h:PE X a t):PE X (.BoolOp op [a] pos) t:=λpins s W H Q I hw=>BoolOp_one<|h pins s W H Q I hw
theorem AG(Y:PE X a ta)(U:PE X (.BoolOp .And (b::rest) pos) tb):PE X (.BoolOp .And (a::b::rest) pos) (Cj ta tb):=by
 intro pins s W H Q I h;refine BoolOp_and<|bZ (Y pins s W H _ I h) λv B J=>?_;obtain⟨x,H1,z,F,q1⟩:=J;obtain⟨c,rfl,q1⟩:=q1;cases F;refine wpAny_truthy_bool ?_;cases c with
 |true=>exact U pins B W H1 Q z q1
 |false=>exact⟨.bl false,H1,z,rfl,q1⟩
theorem CI(Y:PE X a ta)(U:PE X (.BoolOp .Or (b::rest) pos) tb):PE X (.BoolOp .Or (a::b::rest) pos) (Ep ta tb):=by
 intro pins s W H Q I h;refine BoolOp_or<|bZ (Y pins s W H _ I h) λv B J=>?_;obtain⟨x,H1,z,F,q1⟩:=J;obtain⟨c,rfl,q1⟩:=q1;cases F;refine wpAny_truthy_bool ?_;cases c with
 |false=>exact U pins B W H1 Q z q1
 |true=>exact⟨.bl true,H1,z,rfl,q1⟩
theorem AB(F:PE X a ta):PE X (.UnaryOp .Not a pos) (Ca ta):=by intro pins s W H Q I h;refine UnaryOp_<|bZ (F pins s W H _ I h) λv U B=>?_;obtain⟨x,H1,J,z,q1⟩:=B;obtain⟨c,rfl,q1⟩:=q1;cases z;exact not_of<|wpAny_truthy_bool ⟨.bl<|!c,H1,J,rfl,q1⟩
def FR(t:TT)(ta tb:TE):TE:=λW H Q=>t W H λc H1=>if c=true then ta W H1 Q else tb W H1 Q
theorem vi(B:PT X c tA)(J:PE X a ta)(F:PE X b tb):PE X (.IfExp c a b pos) (FR tA ta tb):=by
 intro pins s W H Q I h;refine wpAny_IfExp<|bZ (B pins s W H _ I h) λd z ⟨H1,I1,q1⟩=>?_;cases d with
 |true=>exact J pins z W H1 Q I1 q1
 |false=>exact F pins z W H1 Q I1 q1
end
def dO(K:aF)(H:Hp)(a:Addr)(xs:List V):Prop:=
 Rd H a (.lst xs)∨
  ∃(o:Obj)(its:Array Value)(n:Nat),K.lookup a=some o/\o.cls=.type "list" /\o.dict=none/\o.data=.seq its n/\its.size<=sizeLine/\bn xs its.toList
def fP(K:aF)(H:Hp)(a:Addr)(xs:List V):Prop:=
 Rd H a (.tup xs)∨
  ∃(o:Obj)(its:Array Value)(n:Nat),K.lookup a=some o/\(o.cls=.type "tuple" /\o.dict=none)/\o.data=.seq its n/\its.size<=sizeLine/\bn xs its.toList
noncomputable def Fk:Value->Option V
 | .none=>some .non
 | .bool b=>some<|.bl b
 | .int i _=>some<|.int i
 | .str x _=>some<|.str x
 | .bytes b _=>some<|.byt b
 | .float b _=>some<|.flt b
 | .ref a=>some<|.ref a
 | .type n=>some<|.ty n
 |_=>none
theorem RelV.abs{x:V}(r:RelV x u):Fk u=some x:=by
 cases x with
 |int _=>obtain⟨t,rfl⟩:=r;rfl
 |str _=>obtain⟨t,rfl⟩:=r;rfl
 |byt _=>obtain⟨t,rfl⟩:=r;rfl
 |flt _=>obtain⟨t,rfl⟩:=r;rfl
 |_=>cases r;rfl
theorem RelV.inj{x y:V}(r:RelV x u)(q:RelV y u):x=y:=ak<|r.abs.symm.trans q.abs
theorem bn.inj:∀{xs ys:List V}{us:List Value},bn xs us->bn ys us->xs=ys
 |_,_,_,.nil,.nil=>rfl
 |_,_,_,.cons r t,.cons r' t'=>by rw[r.inj r',bn.inj t t']
section
variable{X:Cx}{pins:List (Addr×Obj)}{W:St}{H:Hp}{s:Shared}{a:Addr}{xs ys:List V}
theorem dO.of{K:aF}(h:H a=some (.lst xs)):dO K H a xs:= .inl<|.inl h
theorem fP.of{K:aF}(h:H a=some (.tup xs)):fP K H a xs:= .inl<|.inl h
theorem Inv.list(I:Inv X pins W H s)(h:dO X.K H a xs):∃its:List Value,bn xs its/\PlainL s.heap a its.toArray/\xs.length<=sizeLine:=by
 rcases h with h|⟨o,its,n,hk,hc,hd,hs,hz,r⟩
 .obtain⟨z,its,n,r,e⟩:=h.ok I.hok;exact⟨its,r,⟨_,n,e,rfl,rfl,rfl⟩,z⟩
 .refine⟨its.toList,r,⟨o,n,I.kIn a o hk,hc,hd,by simpa using hs⟩,?_⟩
  have e:=r.length;simp only[length_toList] at e;omega
theorem Inv.tuple(I:Inv X pins W H s)(h:fP X.K H a xs):∃its:List Value,bn xs its/\IsTup s.heap a its.toArray/\xs.length<=sizeLine:=by
 rcases h with h|⟨o,its,n,hk,hc,hs,hz,r⟩
 .obtain⟨z,its,r,p⟩:=h.ok I.hok;exact⟨its,r,p.tup,z⟩
 .refine⟨its.toList,r,⟨o,I.kIn a o hk,hc.1,n,by simpa using hs⟩,?_⟩
  have e:=r.length;simp only[length_toList] at e;omega
theorem Inv.list_inj(I:Inv X pins W H s)(h:dO X.K H a xs)(h':dO X.K H a ys):xs=ys:=by
 obtain⟨its,r,⟨o,n,e,_,_,d⟩,_⟩:=I.list h;obtain⟨its',c,⟨o',z,e',_,_,d'⟩,_⟩:=I.list h';rw[e] at e';cases e';rw[d] at d';injection d' with d1 _;have:its=its':=by simpa using congrArg toList d1
 subst this;exact r.inj c
theorem Inv.tuple_inj(I:Inv X pins W H s)(h:fP X.K H a xs)(h':fP X.K H a ys):xs=ys:=by
 obtain⟨its,r,⟨o,e,_,n,d⟩,_⟩:=I.tuple h;obtain⟨its',c,⟨o',e',_,z,d'⟩,_⟩:=I.tuple h';rw[e] at e';cases e';rw[d] at d';injection d' with d1 _;have:its=its':=by simpa using congrArg toList d1
 subst this;exact r.inj c
end
section
end
section
variable{X:Cx}{st:Stmt}{rest:List Stmt}{t u:TS}{e:Expr}{te:TE}{pos:Pos}
def Cb:TS:=λD W H=>D.nx W H
def Em(t u:TS):TS:=λD W H=>t {D with nx:=u D} W H
theorem xI:PSs X [] Cb:=λ_ _ W H _ I h=>wpAny_execs_nil ⟨W,H,I,h⟩
theorem uW(h1:PS X st t)(h2:PSs X rest u):PSs X (st::rest) (Em t u):=by
 intro pins s W H D I h;refine wpAny_execs_cons<|bZ (h1 pins s W H {D with nx:=u D} I h) λf c q=>?_;cases f with
 |next=>obtain⟨W',H',z,q⟩:=q;exact h2 pins c W' H' D z q
 |_=>exact q
def Cf:TS:=λD W H=>D.ct W H
theorem nV:PS X (.Continue pos) Cf:=λ_ _ W H _ I h=>wpAny_Continue ⟨W,H,I,h⟩
theorem Inv.quiet{W:St}{H:Hp}(I:Inv X pins W H s):interactive X.env=false:=by simp[interactive,I.ok.kind]
def Cd(te:TE):TS:=λD W H=>te W H λ_ H1=>D.nx W H1
theorem xJ(c:PE X e te)(hs:swapsWith e none pos.line X.env=pure false:=by rfl):PS X (.Expr e pos) (Cd te):=by intro pins s W H D I h;exact wpAny_Expr_any (bZ (c pins s W H _ I h) λv z ⟨x,H1,I1,r1,q1⟩=>⟨W,H1,I1,q1⟩) I.quiet hs
def Eo(te:TE):TS:=λD W H=>te W H D.rt
theorem As(c:PE X e te):PS X (.Return (some e) pos) (Eo te):=by intro pins s W H D I h;exact wpAny_Return_some<|bZ (c pins s W H _ I h) λv z ⟨x,H1,I1,r1,q1⟩=>⟨x,W,H1,I1,r1,q1⟩
def Et(c:TT)(t u:TS):TS:=λD W H=>c W H λb H1=>if b=true then t D W H1 else u D W H1
theorem CF{a b:List Stmt}{z:TT}(F:PT X c z)(U:PSs X a t)(J:PSs X b u):PS X (.If c a b pos) (Et z t u):=by
 intro pins s W H D I h;refine wpAny_If<|bZ (F pins s W H _ I h) λd B ⟨H1,I1,q1⟩=>?_;cases d with
 |true=>exact U pins B W H1 D I1 q1
 |false=>exact J pins B W H1 D I1 q1
end
abbrev TG:=V->St->Hp->(St->Hp->Prop)->Prop
abbrev wT:=List V->St->Hp->(St->Hp->Prop)->Prop
def PG(X:Cx)(target:Expr)(t:TG):Prop:=
 ∀(pins:List (Addr×Obj))(s:Shared)(W:St)(H:Hp)(v:V)(u:Value)(Q:St->Hp->Prop),Inv X pins W H s->RelV v u->t v W H Q->
  wpAny (model X.prog X.w) X.A (assign target X.env u) (λ_ s'=>∃W' H',Inv X pins W' H' s'/\Q W' H') X.xe s
def BS(X:Cx)(ts:List Expr)(t:wT):Prop:=
 ∀(pins:List (Addr×Obj))(s:Shared)(W:St)(H:Hp)(vs:List V) (us:List Value)(Q:St->Hp->Prop),Inv X pins W H s->bn vs us->t vs W H Q->
  wpAny (model X.prog X.w) X.A (assignInOrder ((assignEach ts X.env).map (·.2)) us) (λ_ s'=>∃W' H',Inv X pins W' H' s'/\Q W' H') X.xe s
abbrev wK:=V->V->V->Hp->(Hp->Prop)->Prop
def BI(X:Cx)(t:wK):Prop:=
 ∀(pins:List (Addr×Obj))(s:Shared)(W:St)(H:Hp)(o i v:V)(ov iv u:Value)(Q:Hp->Prop),Inv X pins W H s->RelV o ov->RelV i iv->RelV v u->t o i v H Q->
  wpAny (model X.prog X.w) X.A (setItem ov iv u) (λ_ s'=>∃H',Inv X pins W H' s'/\Q H') X.xe s
abbrev D_:=V->V->Hp->VK->Prop
def FH(X:Cx)(op:Operator)(t:D_):Prop:=
 ∀(pins:List (Addr×Obj))(s:Shared)(W:St)(H:Hp)(x y:V)(v u:Value)(Q:VK),Inv X pins W H s->RelV x v->RelV y u->t x y H Q->
  wpAny (model X.prog X.w) X.A (inplaceOp op v u) (EP X pins W Q) X.xe s
section
variable{X:Cx}{pos:Pos}
def gO(i:Nat):TG:=λv W H Q=>Q (W.set i<|some v) H
theorem eG(B:X.N.Nodup)(hi:X.N[i]? =some x)(c:Loc X.env.scope x)(z:X.fn x=true∨X.env.scope.names.lookup x=some .local:=by first|exact .inl rfl|exact .inr rfl|assumption):PG X (.Name x pos) (gO i):=by intro pins s W H v u Q I r h;exact wpAny_assign_Name<|nQ I B hi c r (λs' F=>⟨_,H,F,h⟩) z
def Bc:wT:=λvs W H Q=>vs=[]/\Q W H
def rp(t:TG)(u:wT):wT:=λvs W H Q=>∃v r,vs=v::r/\t v W H λW' H'=>u r W' H' Q
theorem qL:BS X [] Bc:=by intro pins s W H vs us Q I r h;obtain⟨e,h⟩:=h;subst e;cases r;exact assignInOrder_nil ⟨W,H,I,h⟩
theorem j5{es:List Expr}{t:TG}{u:wT}(h1:PG X e t)(h2:BS X es u)
  (hs:(assignEach (e::es) X.env).map (·.2)=assign e X.env::(assignEach es X.env).map (·.2):=by rfl):BS X (e::es) (rp t u):=by
 intro pins s W H vs us Q I r h;obtain⟨v,J,B,h⟩:=h;subst B;cases r with
 |cons r rr=>rw[hs];refine assignInOrder_cons<|bZ (h1 pins s W H _ _ _ I r h) λ_ c z=>?_;obtain⟨W1,H1,F,q1⟩:=z;exact h2 pins c W1 H1 _ _ Q F rr q1
def Dj(K:aF)(n:Nat)(t:wT):TG:=λv W H Q=>∃a xs,v=.ref a/\fP K H a xs/\xs.length=n/\t xs W H Q
theorem Aw{es:List Expr}{k:Nat}{t:wT}(J:X.calm=true)(h:BS X es t)
  (B:(assignEach es X.env).length=n:=by rfl)(hst:(assignEach es X.env).findIdx? (·.1)=none:=by rfl):PG X (.Tuple es k pos) (Dj X.K n t):=by
 intro pins s W H v u Q I r hw;obtain⟨a,xs,U,z,F,hw⟩:=hw;subst U;cases r;obtain⟨its,rv,ht,Z⟩:=I.tuple z;refine assign_Tuple_tuple (I.ok.hd J) ht (by simp[B,<-F,rv.length]) hst λh' c=>?_
 have Y:Inv X pins W H {s with heap:=h'}:=I.kept (t':=s.toks) λb o e=>c b o (aw<|au e) e;exact h pins _ W H xs _ Q Y (by simpa using rv) hw
def EW(to ti:TE)(t:wK):TG:=λv W H Q=>to W H λo H1=>ti W H1 λi H2=>t o i v H2 λH3=>Q W H3
theorem Ax{o i:Expr}{to B:TE}{t:wK}(ho:PE X o to)(hi:PE X i B)(hs:BI X t)
  (ha:∀v,assign (.Subscript o i pos) X.env v=(do
   let ov <-holding [v] (eval o X.env)
   let c <-holding [v,ov] (eval i X.env)
   standAt pos
   holding [v,ov,c] (setItem ov c v)
   release [v,ov,c] []):=by intro _;rfl):PG X (.Subscript o i pos) (EW to B t):=by
 intro pins s W H v u Q I r h;rw[ha];refine ae<|wpAny_holding<|bZ (ho pins s W H _ I h) λov J z=>?_;obtain⟨x,H1,I1,Y,q1⟩:=z;refine ae<|wpAny_holding<|bZ (hi pins J W H1 _ I1 q1) λc F z=>?_;obtain⟨y,H2,I2,U,q2⟩:=z;refine ae<|wpAny_standAt<|ae<|wpAny_holding<|bZ (hs pins F W H2 x y v ov c u _ I2 Y U r q2) λ_ s3 z=>?_;obtain⟨H3,I3,Z⟩:=z;exact wpAny_release ⟨W,H3,I3,Z⟩
def ue(te:TE)(g:TG):TS:=λD W H=>te W H λx H1=>g x W H1 D.nx
theorem uZ{te:TE}{g:TG}(B:PE X e te)(z:PG X tg g)(hs:swapsWithSole [tg] e pos.line X.env=pure false:=by rfl)(hw:swappedStores [tg] e X.env=pure none:=by rfl)
  (h1:(assignEach [tg] X.env).map (·.2)=[assign tg X.env]:=by rfl):PS X (.Assign [tg] e pos) (ue te g):=by
 intro pins s W H D I h;refine wpAny_Assign_stores (bZ (B pins s W H _ I h) λv c ⟨x,H1,I1,r1,q1⟩=>?_) hs hw;rw[h1];exact bZ (z pins c W H1 x v _ I1 r1 q1) λ_ F q=>q
theorem uY{te:TE}{pos':Pos}(B:X.N.Nodup)(hi:X.N[i]? =some x)(c:Loc X.env.scope x)(z:PE X e te)(hs:swapsWith e (some<|.Name x pos') pos.line X.env=pure false:=by rfl)(hf:X.fn x=true∨X.env.scope.names.lookup x=some .local:=by first|exact .inl rfl|exact .inr rfl|assumption):
  PS X (.Assign [.Name x pos'] e pos) (ue te<|gO i):=by
 intro pins s W H D I h;refine wpAny_Assign_Name (bZ (z pins s W H _ I h) λv U ⟨y,H1,I1,r1,q1⟩=>?_) hs;exact nQ I1 B hi c r1 (λJ F=>⟨_,H1,F,q1⟩) hf
def Ch(to ti te:TE)(tget:V->V->Hp->VK->Prop)(tip:D_)(tset:wK):TS:=λD W H=>to W H λo H1=>ti W H1 λi H2=>tget o i H2 λx H3=>te W H3 λy H4=>tip x y H4 λz H5=>tset o i z H5 λH6=>D.nx W H6
def DP(X:Cx)(t:V->V->Hp->VK->Prop):Prop:=
 ∀(pins:List (Addr×Obj))(s:Shared)(W:St)(H:Hp)(o i:V)(ov iv:Value)(Q:VK),Inv X pins W H s->RelV o ov->RelV i iv->t o i H Q->
  wpAny (model X.prog X.w) X.A (getItem ov iv) (EP X pins W Q) X.xe s
theorem xL{o i:Expr}{to U te:TE}{tget:V->V->Hp->VK->Prop}{B:D_}{tset:wK}{op:Operator}{tpos:Pos}(ho:PE X o to)(hi:PE X i U)(hg:DP X tget)(he:PE X e te)(c:FH X op B)(hs:BI X tset)
  (ha:∀ov z new,augStore i ov z new=(do holding [new,ov,z] (setItem ov z new);release [new,ov,z] [];pure .next):=by intros;rfl):PS X (.AugAssign (.Subscript o i tpos) op e pos) (Ch to U te tget B tset):=by
 intro pins s W H D I h;refine wpAny_AugAssign_SubscriptAny (bZ (ho pins s W H _ I h) λov s1 ⟨J,H1,I1,r1,q1⟩=>?_) ha;refine bZ (hi pins s1 W H1 _ I1 q1) λz s2 c=>?_;obtain⟨F,H2,I2,Y,q2⟩:=c;refine bZ (hg pins s2 W H2 J F ov z _ I2 r1 Y q2) λold s3 c=>?_;obtain⟨x3,H3,I3,r3,q3⟩:=c;refine bZ (he pins s3 W H3 _ I3 q3) λv s4 c=>?_;obtain⟨Z,H4,I4,r4,q4⟩:=c;refine bZ (c pins s4 W H4 x3 Z old v _ I4 r3 r4 q4) λnew s5 c=>?_;obtain⟨x5,H5,I5,r5,q5⟩:=c;exact bZ (hs pins s5 W H5 J F x5 ov z new _ I5 r1 Y r5 q5) λ_ s6 ⟨H6,I6,q6⟩=>⟨W,H6,I6,q6⟩
def FZ(f:Int->Int->Int):D_:=λx y H Q=>∃i j,x=.int i/\y=.int j/\Q (.int<|f i j) H
theorem A5:FH X .Add (FZ λi j=>i+j):=by intro pins s W H x y v u Q I z c h;obtain⟨i,j,F,B,q⟩:=h;subst F;subst B;obtain⟨t,rfl⟩:=z;obtain⟨t',rfl⟩:=c;exact iadd_int ⟨.int _,H,I.tok _,⟨_,rfl⟩,q⟩
end
section
variable{X:Cx}{pos:Pos}
def zS(c:TT)(tb:TS):TS:=λD W H=>∃Ww:Nat->St->Hp->Prop,(∃m,Ww m W H)/\∀m W H,Ww m W H->
 c W H λb H1=>if b=true then ∃N:St->Hp->Prop,(∀W' H',N W' H'->∃m',m'<m/\Ww m' W' H')/\tb {D with nx:=N,ct:=N,bk:=D.nx} W H1 else D.nx W H1
theorem uX{body:List Stmt}{Z:TT}{tb:TS}(hp:PassesOwn (model X.prog X.w) X.A X.env X.xe)(hc:PT X c Z)(hb:PSs X body tb):PS X (.While c body [] pos) (zS Z tb):=by
 intro pins s W H D I h;obtain⟨Ww,⟨m0,w0⟩,turn⟩:=h;refine wpAny_While<|codeAny_whileLoop (λn s'=>∃W' H',Inv X pins W' H' s'/\Ww n W' H') ?_ m0 ⟨W,H,I,w0⟩;rintro n s1 ⟨W1,H1,I1,w1⟩;refine wpAny_passesOwn hp<|bZ (hc pins s1 W1 H1 _ I1<|turn n W1 H1 w1) λb s2 ⟨H2,I2,q2⟩=>?_;cases b with
 |true=>
  obtain⟨N,hN,q2⟩:=q2;rw[if_pos rfl];refine wpAny_passesOwn hp<|bZ (hb pins s2 W1 H2 _ I2 q2) λf s3 B=>?_;cases f with
  |brk=>exact B
  |ret v=>exact B
  |_=>obtain⟨W3,z,Y,J⟩:=B;obtain⟨m',U,F⟩:=hN W3 z J;exact⟨m',U,W3,z,Y,F⟩
 |false=>rw[if_neg aQ];exact wpAny_execs_nil ⟨W1,H2,I2,q2⟩
end
structure It where
 go:Nat->Hp->Prop
 yld:Nat->Hp->V->Hp->Prop
 stop:Nat->Hp->Prop
def iP(X:Cx)(pins:List (Addr×Obj))(H:Hp)(b:Addr):Prop:=
 H b=none/\b≠X.env.locals/\b∉X.fs/\(b∈X.ex∨X.s₀.heap.objs.size<=b)/\(∀x c,X.env.cells.lookup x=some c->c≠b)/\∀p∈X.pn++pins,p.1≠b
theorem Inv.fpOk{X:Cx}{W:St}{H H':Hp}(I:Inv X pins W H s)(B:s.heap.objs.size<=b)(J:H' b=none):iP X pins H' b:=by
 refine⟨J,bd<|ao I.lt B,I.nofs B,.inr<|aM I.sz B,λx c e z=>?_,λp F z=>?_⟩
 .obtain⟨v,q⟩:=I.cell x c e;exact absurd (ao q.lt (by rw[z];exact B))<|a8 _
 .exact absurd (ao (au (I.pin p F).1) (by rw[z];exact B))<|a8 _
structure Turn(P:Program)(w:World)(K:aF)(tg:Expr)(J:It)(fp:List Addr)(it:Addr)(tn:Nat->Heap->Prop):Prop where
 mem:it∈fp
 obj:∀i h,tn i h->∀b∈fp,∃o,h.get? b=some o/\∀v,o.data≠ .cell v
 keep:∀i h h',tn i h->(∀b∈fp,∀o,h.get? b=some o->h'.get? b=some o)->tn i h'
 item:∀(X:Cx),X.prog=P->X.w=w->X.K=K->X.calm=true->∀(i:Nat)(pins:List (Addr×Obj))(s:Shared)(W:St)(H:Hp)(E:Value->Shared->Prop),Inv X pins W H s->(∀b∈fp,iP X pins H b)->tn i s.heap->J.go i H->
  wpAny (model P w) X.A (pyNext<|.ref it) (λr s1=>∃u,r=some u/\
   wpAny (model P w) X.A (letOwnedTupleGo tg (.ref it) u) (λ_ s2=>∃x H',Inv X pins W H' s2/\RelV x u/\J.yld i H x H'/\tn (i+1) s2.heap/\∀b∈fp,H' b=none) E s1) E s
 done:∀(X:Cx),X.prog=P->X.w=w->X.K=K->X.calm=true->∀(i:Nat)(pins:List (Addr×Obj))(s:Shared)(W:St)(H:Hp)(E:Value->Shared->Prop),Inv X pins W H s->(∀b∈fp,iP X pins H b)->tn i s.heap->J.stop i H->
  wpAny (model P w) X.A (pyNext<|.ref it) (λr s1=>r=none/\Inv X pins W H s1) E s
 self:∀(A:Around)(i:Nat)(s:Shared)(Q:Value->Shared->Prop)(E:Value->Shared->Prop),tn i s.heap->Q (.ref it) s->wpAny (model P w) A (pyIter<|.ref it) Q E s
abbrev TI:=St->Hp->(It->Hp->Prop)->Prop
def FI(X:Cx)(pins:List (Addr×Obj))(W:St)(tg:Expr)(R:It->Hp->Prop)(itv:Value)(s2:Shared):Prop:=
 ∃(it:Addr)(fp:List Addr)(tn:Nat->Heap->Prop)(J:It)(H':Hp),itv=.ref it/\Inv X pins W H' s2/\Turn X.prog X.w X.K tg J fp it tn/\tn 0 s2.heap/\(∀b∈fp,iP X pins H' b)/\R J H'
def PI(X:Cx)(tg iter:Expr)(wi:TI):Prop:=
 ∀(pins:List (Addr×Obj))(s:Shared)(W:St)(H:Hp)(R:It->Hp->Prop),Inv X pins W H s->wi W H R->
  wpAny (model X.prog X.w) X.A (eval iter X.env) (λv s1=>wpAny (model X.prog X.w) X.A (pyIter v) (FI X pins W tg R) X.xe s1) X.xe s
theorem oH{M:Model}{n:String}{vs:Array Value}{Q:Unit->Shared->Prop}(ho:s.heap.get? it=some o)(B:o.cls=.type n)(hd:o.data=.fields vs)
  (z:["enumerate","zip","dict_itemiterator","dict_reverseitemiterator","odict_iterator","itertools.zip_longest","itertools.pairwise"].contains n=false) (c:Q () s):wpAny M A (letOwnedTupleGo tg (.ref it) u) Q E s:=by
 unfold letOwnedTupleGo
 cases tg<;>first
  |exact ai c
  |(cases u<;>first
    |exact ai c
    |(refine ae (wpAny_load ho ?_)
      rw[B,hd];show wpAny M A (if(["enumerate","zip","dict_itemiterator","dict_reverseitemiterator","odict_iterator","itertools.zip_longest","itertools.pairwise"].contains n&&vs[0]? ==some (rawInt _))=true then _ else _) Q E s
      rw[if_neg (by intro h;rw[z,Bool.false_and] at h;cases h)]
      exact ai c))
noncomputable def Ee(K:aF)(a:Addr):It:=
 ⟨λi H=>∃xs x,dO K H a xs/\xs[i]? =some x,λi H x H'=>H'=H/\∀xs,dO K H a xs->xs[i]? =some x,λi H=>∃xs,dO K H a xs/\xs.length<=i⟩
noncomputable def Fs(K:aF)(a:Addr):It:=
 ⟨λi H=>∃xs x,fP K H a xs/\xs[i]? =some x,λi H x H'=>H'=H/\∀xs,fP K H a xs->xs[i]? =some x,λi H=>∃xs,fP K H a xs/\xs.length<=i⟩
noncomputable def BU(lo:Int)(n:Nat):It:=⟨λi _=>i<n,λi H x H'=>H'=H/\x=.int (lo+i),λi _=>n<=i⟩
theorem rW{K:aF}(a it:Addr):Turn P w K tg (Ee K a) [it] it (λi h=>h.IsListIter it a i) where
 mem:=by simp
 obj:=λi h st b B=>by
  have e:b=it:=by simpa using B
  subst e;obtain⟨o,e,c,d⟩:=st;exact⟨o,e,λv z=>by rw[d] at z;cases z⟩
 keep:=λi h h' st k=>st.at λo e=>k it (by simp) o e
 item:=by
  intro X Z hw hK hc i pins s W H E I J st Y;subst Z hw hK;obtain⟨xs,x,F,U⟩:=Y;obtain⟨its,rv,p,hz⟩:=I.list F;obtain⟨u,hu,ru⟩:=rv.get U;obtain⟨f0,f1,f2,f3,f4,f5⟩:=J it (by simp)
  refine wpAny_pyNext_list_item st p.isList (x:=u) (by simpa using hu) λh' st' sb=>?_
  have I1:Inv X pins W H {s with heap:=h'}:=I.turned (t':=s.toks) (λb o B e=>(sb.2 b B).trans e) f0 f1 f3 f4 f5;obtain⟨o,e,c,d⟩:=id st';exact⟨u,rfl,oH (s:={s with heap:=h'}) e c d (by decide) ⟨x,H,I1,ru,⟨rfl,λys hy=>by rw[I.list_inj hy F];exact U⟩,st',λb B=>(J b B).1⟩⟩
 done:=by
  intro X Z hw hK hc i pins s W H E I J st Y;subst Z hw hK;obtain⟨xs,F,U⟩:=Y;obtain⟨its,rv,p,hz⟩:=I.list F;obtain⟨f0,f1,f2,f3,f4,f5⟩:=J it (by simp)
  have hl:=rv.length;exact wpAny_pyNext_list_end (I.ok.hd hc) st p.isList (by simp;omega) λh' eb=>⟨rfl,I.turned (t':=s.toks) (λb o B e=>eb b o B e) f0 f1 f3 f4 f5⟩
 self:=λ_ _ _ _ _ st h=>wpAny_pyIter_listiter st h
theorem o_{K:aF}(a it:Addr):Turn P w K tg (Fs K a) [it] it (λi h=>h.IsTupleIter it a i) where
 mem:=by simp
 obj:=λi h st b B=>by
  have e:b=it:=by simpa using B
  subst e;obtain⟨o,e,c,d⟩:=st;exact⟨o,e,λv z=>by rw[d] at z;cases z⟩
 keep:=λi h h' st k=>st.at λo e=>k it (by simp) o e
 item:=by
  intro X Z hw hK hc i pins s W H E I J st Y;subst Z hw hK;obtain⟨xs,x,F,U⟩:=Y;obtain⟨its,rv,p,hz⟩:=I.tuple F;obtain⟨u,hu,ru⟩:=rv.get U;obtain⟨f0,f1,f2,f3,f4,f5⟩:=J it (by simp)
  refine wpAny_pyNext_tuple_item st (show s.heap.IsTuple a its.toArray from p) (x:=u) (by simpa using hu) λh' st' sb=>?_
  have I1:Inv X pins W H {s with heap:=h'}:=I.turned (t':=s.toks) (λb o B e=>(sb.2 b B).trans e) f0 f1 f3 f4 f5;obtain⟨o,e,c,d⟩:=id st';exact⟨u,rfl,oH (s:={s with heap:=h'}) e c d (by decide) ⟨x,H,I1,ru,⟨rfl,λys hy=>by rw[I.tuple_inj hy F];exact U⟩,st',λb B=>(J b B).1⟩⟩
 done:=by
  intro X Z hw hK hc i pins s W H E I J st Y;subst Z hw hK;obtain⟨xs,F,U⟩:=Y;obtain⟨its,rv,p,hz⟩:=I.tuple F;obtain⟨f0,f1,f2,f3,f4,f5⟩:=J it (by simp)
  have hl:=rv.length;exact wpAny_pyNext_tuple_end (I.ok.hd hc) st (show s.heap.IsTuple a its.toArray from p) (by simp;omega) λh' eb=>⟨rfl,I.turned (t':=s.toks) (λb o B e=>eb b o B e) f0 f1 f3 f4 f5⟩
 self:=λ_ _ _ _ _ st h=>wpAny_pyIter_tupleiter st h
theorem pc{K:aF}(it:Addr)(lo:Int)(n:Nat):Turn P w K tg (BU lo n) [it] it (λi h=>IsRangeIter h it (lo+(i:Nat)*1) ((n:Int) - (i:Nat)) 1) where
 mem:=by simp
 obj:=λi h st b c=>by
  have e:b=it:=by simpa using c
  subst e
  exact⟨_,st,λv z=>by have z':Data.fields _=Data.cell v:=z;cases z'⟩
 keep:=λi h h' st k=>k it (by simp) _ st
 item:=by
  intro X U hw Y J i pins s W H E I B st F;subst U hw Y;obtain⟨f0,f1,f2,f3,f4,Z⟩:=B it (by simp)
  have Ww:=Walks.range (prog:=X.prog) (w:=X.w) (I.ok.hd J) it lo 1 n;refine Ww.item i s _ _ F st λv h' tk hv st' kk=>?_;obtain⟨t,rfl⟩:=hv;have I1:Inv X pins W H {s with heap:=h',toks:=tk}:=I.turned (λb o c e=>kk b o (by simpa using c) e) f0 f1 f3 f4 Z
  refine⟨_,rfl,oH (s:={s with heap:=h',toks:=tk}) (n:= "range_iterator") st' rfl rfl (by decide) ⟨.int<|lo+i,H,I1,⟨t,?_⟩,⟨rfl,rfl⟩,st',λb c=>(B b c).1⟩⟩
  rw[Int.mul_one]
 done:=by
  intro X U hw Y J i pins s W H E I B st F;subst U hw Y;obtain⟨f0,f1,f2,f3,f4,Z⟩:=B it (by simp)
  exact wpAny_pyNext_range_end (I.ok.hd J) st (by have:n<=i:=F;omega) λh' eb=>⟨rfl,I.turned (t':=s.toks) (λb o c e=>eb b o c e) f0 f1 f3 f4 Z⟩
 self:=λ_ _ _ _ _ st h=>wpAny_pyIter_rangeiter st h
section
variable{X:Cx}{tg:Expr}
theorem nU{W:St}{H:Hp}{R:It->Hp->Prop}{lo hi:Int}{t u v:Tok}{tk:Nat}(I:Inv X pins W H s)(h1: -(2^62)<=lo)(h2:lo<2^62)(F: -(2^62)<=hi)(B:hi<2^62)
  (q:R (BU lo (hi - lo).toNat) H):wpAny (model X.prog X.w) X.A (pyIter<|.ref s.heap.objs.size) (FI X pins W tg R) E {s with heap:=s.heap.push {cls:= .type "range",data:= .fields #[.int lo t,.int hi u,.int 1 v]},toks:=tk}:=by
 refine wpAny_pyIter_range (IsRange.new ..) (small_one h1 h2 F B) ?_;have c:Inv X pins W H {s with heap:=s.heap.push {cls:= .type "range",data:= .fields #[.int lo t,.int hi u,.int 1 v]},toks:=tk}:=I.kept λb o e=>ah _ e
 refine⟨(s.heap.push {cls:= .type "range",data:= .fields #[.int lo t,.int hi u,.int 1 v]}).objs.size,[(s.heap.push {cls:= .type "range",data:= .fields #[.int lo t,.int hi u,.int 1 v]}).objs.size],_,_,H,rfl,
  c.kept (t':=tk) λb o e=>ah _ e,pc _ lo (hi - lo).toNat,?_,λb z=>?_,q⟩
 .have U:lo+((0:Nat):Int)*1=lo:=by simp
  have J:(((hi - lo).toNat:Nat):Int) - ((0:Nat):Int)=Builtin.Range.rangeSize lo hi 1:=by rw[rangeSize_one];split<;>omega
  show IsRangeIter _ _ (lo+((0:Nat):Int)*1) ((((hi - lo).toNat:Nat):Int) - ((0:Nat):Int)) 1;rw[U,J];exact aC _ rfl
 .have e:b=(s.heap.push {cls:= .type "range",data:= .fields #[.int lo t,.int hi u,.int 1 v]}).objs.size:=by simpa using z
  subst e;exact c.fpOk (aa _)<|c.hok.fresh<|aa _
def zh(ta:TA):TI:=λW H R=>ta W H λvs H1=>∃j:Int,vs=[.int j]/\ -(2^62)<=j/\j<2^62/\R (BU 0 j.toNat) H1
def Dg(ta:TA):TI:=λW H R=>ta W H λvs H1=>∃i j:Int,vs=[.int i,.int j]/\(-(2^62)<=i/\i<2^62/\ -(2^62)<=j/\j<2^62)/\R (BU i (j - i).toNat) H1
theorem lA{a:Expr}{ta:TA}(z:Gl X "range")(c:X.mg "range"=none)(B:PA X [a] ta)(hs:starEach [a] X.env=[(false,eval a X.env)]:=by rfl):PI X tg (.Call (.Name "range" p) [a] [] pos) (zh ta):=by
 intro pins s W H R I h;refine Call_<|ft I z c boot_range<|a7 (bZ (B pos pins s W H _ I h) λus F ⟨vs,H1,I1,r1,q1⟩=>?_) hs rfl;obtain⟨j,e,q1,q2,q⟩:=q1;subst e;cases r1 with
 |cons r rr=>
  cases rr;obtain⟨t,rfl⟩:=r;exact call_range_1<|nU I1 (by omega) (by omega) q1 q2 (by simpa using q)
theorem sC{a b:Expr}{ta:TA}(F:Gl X "range")(B:X.mg "range"=none)(J:PA X [a,b] ta)(hs:starEach [a,b] X.env=[(false,eval a X.env),(false,eval b X.env)]:=by rfl)(hs2:starEach [b] X.env=[(false,eval b X.env)]:=by rfl):
  PI X tg (.Call (.Name "range" p) [a,b] [] pos) (Dg ta):=by
 intro pins s W H R I h;refine Call_<|ft I F B boot_range<|a7 (bZ (J pos pins s W H _ I h) λus U ⟨vs,H1,I1,r1,q1⟩=>?_) (by rw[hs,hs2]) (by rw[hs2];rfl)
 obtain⟨i,j,e,⟨q1,q2,z,c⟩,q⟩:=q1;subst e;cases r1 with
 |cons r rr=>
  cases rr with
  |cons r' rr=>cases rr;obtain⟨t,rfl⟩:=r;obtain⟨t',rfl⟩:=r';exact call_range_2<|nU I1 q1 q2 z c q
def Eu(wi:TI)(g:TG)(tb:TS):TS:=λD W H=>wi W H λJ H1=>∃Ww:Nat->Nat->St->Hp->Prop,(∃m,Ww 0 m W H1)/\∀i m W H,Ww i m W H->
 (J.stop i H/\D.nx W H)∨(J.go i H/\∃N:St->Hp->Prop,(∀W' H',N W' H'->∃m',m'<m/\Ww (i+1) m' W' H')/\∀x H',J.yld i H x H'->g x W H' λW2 H2=>tb {D with nx:=N,ct:=N,bk:=D.nx} W2 H2)
noncomputable def j4(fp:List Addr)(h:Heap):List (Addr×Obj):=fp.filterMap λb=>(h.get? b).map λo=>(b,o)
theorem fq(c:b∈fp)(e:h.get? b=some o):(b,o)∈j4 fp h:=mem_filterMap.mpr ⟨b,c,by rw[e];rfl⟩
theorem sH{p:Addr×Obj}(c:p∈j4 fp h):p.1∈fp/\h.get? p.1=some p.2:=by
 obtain⟨b,z,e⟩:=mem_filterMap.mp c;cases q:h.get? b with
 |none=>rw[q] at e;cases e
 |some o=>rw[q] at e;have e':(b,o)=p:=ak e;subst e';exact⟨z,q⟩
theorem Inv.pinned{W:St}{H:Hp}(I:Inv X pins W H s)(F:∀b∈fp,iP X pins H b)(ho:∀b∈fp,∃o,s.heap.get? b=some o/\∀v,o.data≠ .cell v):Inv X (pins++j4 fp s.heap) W H s:=
 I.pins_of λp B=>(mem_append.mp B).elim (λz=>I.pin p<|aS _ z) λz=>by obtain⟨c,e⟩:=sH z;obtain⟨J,f1,f2,_⟩:=F p.1 c;obtain⟨o,e',d⟩:=ho p.1 c;rw[e] at e';cases e';exact⟨e,J,f1,f2,d⟩
theorem Inv.unpinned{c:List (Addr×Obj)}{W:St}{H:Hp}(I:Inv X (pins++c) W H s):Inv X pins W H s:=I.pins_of λp z=>I.pin p<|aS _<|aR _ z
theorem j3{iter:Expr}{body:List Stmt}{wi:TI}{g:TG}{tb:TS}(c:PassesOwn (model X.prog X.w) X.A X.env X.xe)(hc:X.calm=true)(hi:PI X tg iter wi)(hg:PG X tg g)(z:PSs X body tb)
  (hs:∀x,foldedSetIterable iter X.env x=pure x:=by intro _;rfl):PS X (.For tg iter body [] pos) (Eu wi g tb):=by
 intro pins s W H D I h;refine wpAny_For (bZ (hi pins s W H _ I h) λv s1 h1=>bZ h1 λitv s2 h2=>?_) hs;obtain⟨it,fp,tn,J,H2,e,I2,T,st2,f2,Ww,⟨m0,w0⟩,turn⟩:=h2;subst e;have stat:∀{H':Hp},(∀b∈fp,H' b=none)->∀b∈fp,iP X pins H' b:=λhn b z=>⟨hn b z,(f2 b z).2⟩;refine codeAny_forLoop_any (λn s'=>∃i W' H',Inv X pins W' H' s'/\tn i s'.heap/\(∀b∈fp,H' b=none)/\Ww i n W' H') ?_ m0 ⟨0,W,H2,I2,st2,λb z=>(f2 b z).1,w0⟩;rintro n s3 ⟨i,W3,H3,I3,Z,fr3,w3⟩;rcases turn i n W3 H3 w3 with⟨stop,qn⟩|⟨go,N,hN,step⟩
 .refine wpAny_passesOwn c<|bZ (T.done X rfl rfl rfl hc i pins s3 W3 H3 X.xe I3 (stat fr3) Z stop) λr s4 ⟨hr,I4⟩=>?_;subst hr;exact wpAny_execs_nil ⟨W3,H3,I4,qn⟩
 .refine wpAny_passesOwn c<|bZ (T.item X rfl rfl rfl hc i pins s3 W3 H3 X.xe I3 (stat fr3) Z go) λr s4 c=>?_;obtain⟨u,hr,h4⟩:=c;subst hr;refine wpAny_passesOwn c<|bZ h4 λ_ s5 c=>?_;obtain⟨x,H5,I5,r5,y5,Y,fr5⟩:=c;have I5':=I5.pinned (stat fr5)<|T.obj _ _ Y;refine wpAny_passesOwn c<|bZ (hg _ s5 W3 H5 x u _ I5' r5<|step x H5 y5) λ_ s6 c=>?_;obtain⟨W6,H6,I6,q6⟩:=c;refine wpAny_passesOwn c (bZ (z _ s6 W6 H6 _ I6 q6) λf s7 U=>?_)
  have again:∀{W7:St}{F:Hp},Inv X (pins++j4 fp s5.heap) W7 F s7->N W7 F->∃m,m<n/\∃i W' H',Inv X pins W' H' s7/\tn i s7.heap/\(∀b∈fp,H' b=none)/\Ww i m W' H':=λ{W7 F} B n7=>by obtain⟨m',hm,w7⟩:=hN W7 F n7;refine⟨m',hm,i+1,W7,F,B.unpinned,T.keep _ _ _ Y λb z o e=>(B.pin (b,o)<|aS _<|aS _<|fq z e).1,λb z=>?_,w7⟩;obtain⟨o,e,d⟩:=T.obj _ _ Y b z;exact(B.pin (b,o)<|aS _<|aS _<|fq z e).2.1
  cases f with
  |brk=>obtain⟨W7,F,B,U⟩:=U;exact⟨W7,F,B.unpinned,U⟩
  |ret v=>obtain⟨x7,W7,F,B,r7,U⟩:=U;exact⟨x7,W7,F,B.unpinned,r7,U⟩
  |_=>obtain⟨W7,F,B,n7⟩:=U;exact again B n7
end
abbrev R2:=V->V->Hp->VK->Prop
def oY(X:Cx)(f:Value->Value->Sem Value)(r:R2):Prop:=
 ∀(pins:List (Addr×Obj))(s:Shared)(W:St)(H:Hp)(x y:V)(v u:Value)(Q:VK),Inv X pins W H s->RelV x v->RelV y u->r x y H Q->
  wpAny (model X.prog X.w) X.A (f v u) (EP X pins W Q) X.xe s
def Fm(X:Cx)(f:Value->Sem Value)(r:V->Hp->VK->Prop):Prop:=
 ∀(pins:List (Addr×Obj))(s:Shared)(W:St)(H:Hp)(x:V)(v:Value)(Q:VK),Inv X pins W H s->RelV x v->r x H Q->
  wpAny (model X.prog X.w) X.A (f v) (EP X pins W Q) X.xe s
def eM(X:Cx)(f:Value)(r:List V->Hp->VK->Prop):Prop:=
 ∀(pins:List (Addr×Obj))(s:Shared)(W:St)(H:Hp)(xs:List V) (us:List Value)(Q:VK),Inv X pins W H s->bn xs us->r xs H Q->
  wpAny (model X.prog X.w) X.A (call f us) (EP X pins W Q) X.xe s
def B_(r:R2)(ta tb:TE):TE:=λW H Q=>ta W H λx H1=>tb W H1 λy H2=>r x y H2 Q
def FN(r:V->Hp->VK->Prop)(ta:TE):TE:=λW H Q=>ta W H λx H1=>r x H1 Q
def rI(C:Int->Int->Prop)(g:Int->Int->V):R2:=λx y H Q=>∃i j,x=.int i/\y=.int j/\C i j/\Q (g i j) H
def BN(g:Int->Int->V):R2:=λx y H Q=>∃i j,x=.int i/\y=.int j/\Q (g i j) H
def rU(g:Int->V):V->Hp->VK->Prop:=λx H Q=>∃i,x=.int i/\Q (g i) H
section
variable{X:Cx}{a b:Expr}{ta tb:TE}{pos:Pos}
theorem BC(ha:PE X a ta)(Z:PE X b tb){W:St}{H:Hp}{R:V->V->Hp->Prop}(I:Inv X pins W H s)
  (h:ta W H λx H1=>tb W H1 λy c=>R x y c)
  (Y:∀v u z x y c,Inv X pins W c z->RelV x v->RelV y u->R x y c->wpAny (model X.prog X.w) X.A (f v u) Q X.xe z):
  wpAny (model X.prog X.w) X.A (eval a X.env) (λv s₁=>wpAny (model X.prog X.w) X.A (eval b X.env) (λu s₂=>wpAny (model X.prog X.w) X.A (f v u) Q X.xe s₂) X.xe s₁) X.xe s:=by
 refine bZ (ha pins s W H _ I h) λv F B=>?_;obtain⟨x,H1,I1,U,q1⟩:=B;refine bZ (Z pins F W H1 _ I1 q1) λu z B=>?_;obtain⟨y,c,I2,J,q2⟩:=B;exact Y v u z x y c I2 U J q2
theorem CJ{op:Operator}{r:R2}(ho:oY X (binaryOp op) r)(J:PE X a ta)(F:PE X b tb):PE X (.BinOp a op b pos) (B_ r ta tb):=by intro pins s W H Q I h;exact wpAny_BinOp<|BC J F I h λv u c x y Y U B z q=>ho pins c W Y x y v u Q U B z q
theorem qM{op:UnaryOp}{r:V->Hp->VK->Prop}(ho:Fm X (unaryOp op) r)(z:PE X a ta):PE X (.UnaryOp op a pos) (FN r ta):=by intro pins s W H Q I h;exact UnaryOp_<|bZ (z pins s W H _ I h) λv c ⟨x,H1,I1,r1,q1⟩=>ho pins c W H1 x v Q I1 r1 q1
theorem DV{C:Int->Int->Prop}{g:Int->Int->Int}
  (rule:∀(i j:Int)(t u:Tok)(s:Shared)(Q:Value->Shared->Prop)(E:Value->Shared->Prop),C i j->Q (.int (g i j) s.toks) {s with toks:=s.toks+1}->wpAny (model X.prog X.w) X.A (f (.int i t)<|.int j u) Q E s):
  oY X f (rI C λi j=>.int<|g i j):=by
 intro pins s W H x y v u Q I z c h;obtain⟨i,j,rfl,rfl,B,q⟩:=h;obtain⟨t,rfl⟩:=z;obtain⟨t',rfl⟩:=c;exact rule i j t t' s _ _ B ⟨.int<|g i j,H,I.tok _,⟨_,rfl⟩,q⟩
theorem CO{g:Int->Int->Int}
  (rule:∀(i j:Int)(t u:Tok)(s:Shared)(Q:Value->Shared->Prop)(E:Value->Shared->Prop),Q (.int (g i j) s.toks) {s with toks:=s.toks+1}->wpAny (model X.prog X.w) X.A (f (.int i t)<|.int j u) Q E s):
  oY X f (BN λi j=>.int<|g i j):=by
 intro pins s W H x y v u Q I z c h;obtain⟨i,j,rfl,rfl,q⟩:=h;obtain⟨t,rfl⟩:=z;obtain⟨t',rfl⟩:=c;exact rule i j t t' s _ _ ⟨.int<|g i j,H,I.tok _,⟨_,rfl⟩,q⟩
theorem CP{g:Int->Int->Bool}
  (rule:∀(i j:Int)(t u:Tok)(s:Shared)(Q:Value->Shared->Prop)(E:Value->Shared->Prop),Q (.bool<|g i j) s->wpAny (model X.prog X.w) X.A (f (.int i t)<|.int j u) Q E s):
  oY X f (BN λi j=>.bl<|g i j):=by
 intro pins s W H x y v u Q I z c h;obtain⟨i,j,rfl,rfl,q⟩:=h;obtain⟨t,rfl⟩:=z;obtain⟨t',rfl⟩:=c;exact rule i j t t' s _ _ ⟨.bl<|g i j,H,I,rfl,q⟩
noncomputable def Fz(i j:Int):Prop:=0<=j/\j<=1000000/\i.natAbs<2^64
noncomputable def BK(i j:Int):Prop:=(-(2^64)<i/\i<2^64)∨(-(2^64)<j/\j<2^64)
theorem BK.ok{i j:Int}(h:BK i j):IntMulOk i j:=by
 rcases h with⟨h1,h2⟩|⟨h1,h2⟩
 .exact .of_left<|intBits_le_64 h1 h2
 .exact .of_right<|intBits_le_64 h1 h2
theorem AM:oY X (binaryOp .Add) (BN λi j=>.int<|i+j):=CO λ_ _ _ _ _ _ _ q=>add_int q
theorem AI:oY X (binaryOp .Sub) (BN λi j=>.int<|i - j):=CO λ_ _ _ _ _ _ _ q=>sub_int q
theorem xX:oY X (binaryOp .Mod) (rI (λ_ j=>j≠0) λi j=>.int<|i.fmod j):=DV λ_ _ _ _ _ _ _ c q=>mod_int' c q
theorem AJ:oY X (binaryOp .Pow) (rI Fz λi j=>.int<|i^j.toNat):=DV λ_ _ _ _ _ _ _ c q=>pow_int_small c.1 c.2.1 c.2.2 q
theorem FK{f:Value->Sem Value}{g:Int->Int}
  (rule:∀(i:Int)(t:Tok)(s:Shared)(Q:Value->Shared->Prop)(E:Value->Shared->Prop),Q (.int (g i) s.toks) {s with toks:=s.toks+1}->wpAny (model X.prog X.w) X.A (f<|.int i t) Q E s):
  Fm X f (rU λi=>.int<|g i):=by
 intro pins s W H x v Q I c h;obtain⟨i,rfl,q⟩:=h;obtain⟨t,rfl⟩:=c;exact rule i t s _ _ ⟨.int<|g i,H,I.tok _,⟨_,rfl⟩,q⟩
theorem l9:Fm X (unaryOp .USub) (rU λi=>.int<|-i):=FK λ_ _ _ _ _ q=>neg_int q
end
section
variable{X:Cx}{a b c:Expr}{ta tb:TE}{pos:Pos}
theorem CM:oY X (compareOp .Lt) (BN λi j=>.bl<|decide<|i<j):=CP λ_ _ _ _ _ _ _ q=>lt_int q
theorem CN:oY X (compareOp .Gt) (BN λi j=>.bl<|decide<|j<i):=CP λ_ _ _ _ _ _ _ q=>gt_int q
theorem xT{op:CmpOp}{r:R2}(ho:oY X (compareOp op) r)(U:PE X a ta)(J:PE X b tb)(F:behindInMarks op b=false):PE X (.Compare a [op] [b] pos) (B_ r ta tb):=by intro pins s W H Q I h;exact wpAny_Compare1 (BC U J I h λv u c x y Z Y B z q=>ho pins c W Z x y v u Q Y B z q) F
def yZ(t:TE):TT:=λW H Q=>t W H λx H'=>∃k,x=.bl k/\Q k H'
theorem xH{op:CmpOp}{r:R2}(ho:oY X (compareOp op) r)(Y:PE X a ta)(U:PE X b tb)(J:behindInMarks op b=false):PT X (.Compare a [op] [b] pos) (yZ<|B_ r ta tb):=by
 intro pins s W H Q I h
 refine wpAny_isTrue_Compare1 (bZ (Y pins s W H _ I h) λv F ⟨x,H1,I1,r1,q1⟩=>bZ (U pins F W H1 _ I1 q1) λu B ⟨y,H2,I2,r2,q2⟩=>
  bZ (ho pins B W H2 x y v u _ I2 r1 r2 q2) λc Z ⟨z,H3,I3,r3,k,e,q3⟩=>?_) J
 subst e;cases r3;exact wpAny_truthy_bool ⟨H3,I3,q3⟩
theorem kb:(sizeLine:Nat)<2^63:=by rw[sizeLine_eq];decide
theorem vals1{x:V}(r:bn [x] us):∃u,us=[u]/\RelV x u:=by
 cases r with
 |cons r1 r2=>cases r2;exact⟨_,rfl,r1⟩
theorem tj:eM X (.type "int") (λxs H Q=>(∃i,xs=[.int i]/\Q (.int i) H)∨∃k,xs=[.bl k]/\Q (.int (if k then 1 else 0)) H):=by
 intro pins s W H xs us Q I r h;rcases h with⟨i,rfl,q⟩|⟨k,rfl,q⟩
 .obtain⟨u,rfl,t,rfl⟩:=vals1 r;exact call_int_int ⟨.int i,H,I,⟨_,rfl⟩,q⟩
 .obtain⟨u,rfl,c⟩:=vals1 r;cases c;exact call_int_bool ⟨.int (if k then 1 else 0),H,I.tok _,⟨_,rfl⟩,q⟩
end
structure ObjM(h:Heap)(x dx C:Addr)(mA:Str->Option Value):Prop where
 obj:h.get? x=some (PySem.W.instObj C dx)
 ns:h.Ns1 dx mA
 ne:dx≠x
theorem sJ(n:h.Ns1 dx mA):∃B,h.get? dx=some B/\∀name,PySem.W.lookIn name B=some (mA name):=by
 obtain⟨o,es,ep,ho,hd,I,_,H⟩:=n;refine⟨o,ho,λname=>?_⟩;have e:=H name;unfold nsFind findBy at e;rw[<-Array.find?_toList] at e;unfold PySem.W.lookIn;rw[hd];dsimp only;split
 .rename_i y q;rw[q] at e;exact congrArg some e
 .rename_i q;rw[q] at e
  have a:es.toList.any (·.refKey)=false:=by rw[List.any_eq_false];intro y F;obtain⟨z,t,c⟩:=I y<|Array.mem_toList_iff.mp F;simp[DictEntry.refKey,c]
  have a':¬es.toList.any (·.refKey)=true:=by rw[a];exact aQ
  rw[if_neg a'];exact congrArg some e
theorem ObjM.look{x:Addr}(I:ObjM h x dx C mA):∃c,PySem.W.InstAt h x (PySem.W.instObj C dx) C (some c)/\∀name,PySem.W.lookIn name c=some (mA name):=
 let⟨c,ho,hl⟩:=sJ I.ns
 ⟨c,⟨I.obj,rfl,rfl,ho⟩,hl⟩
section
variable{prog:Program}{w:World}{A:Around}{E:Value->Shared->Prop}{s:Shared}{K:aF}{x dx C f:Addr}{mA:Str->Option Value}{name:Str}{v:Value}
theorem yA{expr:Bool}(X:K.In s.heap)(I:ObjM s.heap x dx C mA)(H:PySem.W.plainGet K C name=true)(F:PySem.W.hasDictIn K C=true)
  (U:PySem.W.findIn K (.ref C) name=some none)(z:mA name=some v)(c:PySem.W.handedIn v=true)(h:Q v {s with toks:=s.toks+1}):
  wpAny (model prog w) A (getAttr (.ref x) name expr) Q E s:=by
 obtain⟨Y,J,B⟩:=I.look;exact PySem.W.get_value X J (PySem.W.plainGet_of H).1 (PySem.W.findObj_own F U rfl (by rw[B,z])) c h
theorem vP{z:Sem Bool}{Q:Value×List Value->Shared->Prop}(X:K.In s.heap)(I:ObjM s.heap x dx C mA)(c:PySem.W.plainGet K C name=true)
  (U:PySem.W.findIn K (.ref C) name=some (some<|.ref f))(ht:PySem.W.isFn K (.ref f)=true)(F:mA name=none)(h:Q (.ref f,[.ref x]) s):
  wpAny (model prog w) A (getMethod (.ref x) name z) Q E s:=by
 obtain⟨B,J,H⟩:=I.look;exact PySem.W.method_fn X J (PySem.W.plainGet_of c).1 (PySem.W.plainGet_of c).2 U (beq_iff_eq.mp ht) (by show(PySem.W.lookIn name B).map (·.isSome)=some false;rw[H,F];rfl) h
theorem xv{ns:List Str}{Q:Unit->Shared->Prop}(X:K.In s.heap)(I:ObjM s.heap x dx C mA)
  (hs:PySem.W.findIn K (.ref C) "__setattr__"=some (some<|.builtin "object.__setattr__")) (Z:PySem.W.plainOver K C=true)(ht:PySem.W.takerIn K C name=some none)(hh:PySem.W.hasDictIn K C=true)
  (hw:PySem.Within mA ns)(hsz:ns.length<=sizeLine)
  (h:∀h',ObjM h' x dx C (λy=>if y=name then some v else mA y)->Heap.SameBut dx s.heap h'->Q () {s with heap:=h',toks:=s.toks+2}):
  wpAny (model prog w) A (setAttr (.ref x) name v) Q E s:=by
 obtain⟨od,J,hl⟩:=I.look;refine PySem.W.set_plain X J hs<|PySem.W.osa_open (s:={s with toks:=s.toks+1}) (r:=none) X J Z ht λb=>?_;obtain⟨cd,hc,H⟩:=PySem.W.any_some hh;have Y:s.heap.get? x=some ⟨.ref C,some dx,.plain,#[]⟩:=I.obj;refine ae<|ai<|ae<|ae<|wpAny_loadPart Y<|ae<|PySem.W.Looks.here (s:={s with toks:=s.toks+1}) (PySem.W.looks_clsIn X hc) ?_;rw[H];refine ai (a:=some dx)<|ae<|ai<|ae ?_;refine wpAny_nsSet1 (s:={s with toks:=s.toks+1}) I.ns λh' z c=>?_;obtain⟨oD,esD,epD,B,F,U⟩:=z.count<|PySem.Within.cons name v hw;refine ae<|wpAny_lookBehind B (by rw[F];exact pastItsLine_dict<|aM U (by rw[length_cons];omega)) ?_
 exact ai<|h _ ⟨(c.2 _<|Ne.symm I.ne).trans I.obj,z,I.ne⟩ c
theorem vA{R:Result->Shared->Prop}{vs:List Value}(X:K.In s.heap)(c:PySem.W.makesIn K C=true)
  (hi:PySem.W.findIn K (.ref C) "__init__"=some (some<|.ref f)) (z:PySem.W.typeIn K (.ref f)=some (.type "function"))
  (h:codeAny (model prog w) (A.under<|.builtin "type.__call__" ⟨.ref C::vs,kw⟩) (.call (.ref f) ⟨.ref (s.heap.objs.size+1)::vs,kw⟩) (PySem.W.InitBack (s.heap.objs.size+1) R)
   {s with heap:=(s.heap.push PySem.W.emptyDict).push (PySem.W.instObj C s.heap.objs.size)}):
  codeAny (model prog w) A (.call (.ref C) ⟨vs,kw⟩) R s:=by
 obtain⟨B,g,d,t,os⟩:=s;exact PySem.W.make_core (PySem.W.makes_of X c) (PySem.W.looks_findIn X hi) (λself=>PySem.W.bind_fn X self z) (.inl rfl) h
end
noncomputable def dY(f:Str)(v:V):List (Str×V)->List (Str×V)
 |[]=>[(f,v)]
 |(g,x)::r=>if g=f then(g,v)::r else(g,x)::dY f v r
theorem jm(f g:Str)(v:V):∀fs:List (Str×V),(dY f v fs).lookup g=if g=f then some v else fs.lookup g
 |[]=>by
  show List.lookup g [(f,v)]=_;by_cases h:g=f
  .have c:(g==f)=true:=beq_iff_eq.mpr h;simp only[List.lookup,c,if_pos h]
  .have c:(g==f)=false:=beq_eq_false_iff_ne.mpr h;simp only[List.lookup,c,if_neg h]
 |(k,x)::r=>by
  have z:=jm f g v r;rw[show dY f v ((k,x)::r)=(if k=f then(k,v)::r else(k,x)::dY f v r) from rfl]
  by_cases hk:k=f
  .rw[if_pos hk];by_cases h:g=k
   .have c:(g==k)=true:=beq_iff_eq.mpr h;simp only[List.lookup,c,if_pos<|h.trans hk]
   .have c:(g==k)=false:=beq_eq_false_iff_ne.mpr h;simp only[List.lookup,c,if_neg (λe:g=f=>h<|e.trans hk.symm)]
  .rw[if_neg hk];by_cases h:g=k
   .have c:(g==k)=true:=beq_iff_eq.mpr h;simp only[List.lookup,c,if_neg (λe:g=f=>hk<|h.symm.trans e)]
   .have c:(g==k)=false:=beq_eq_false_iff_ne.mpr h;simp only[List.lookup,c];exact z
theorem iX(f:Str)(v:V):∀fs:List (Str×V),f∈(dY f v fs).map (·.1)/\∀g,g∈fs.map (·.1)->g∈(dY f v fs).map (·.1)
 |[]=>⟨by simp[dY],λg h=>by simp at h⟩
 |(k,x)::r=>by
  obtain⟨z,c⟩:=iX f v r;rw[show dY f v ((k,x)::r)=(if k=f then(k,v)::r else(k,x)::dY f v r) from rfl]
  by_cases hk:k=f
  .rw[if_pos hk];subst hk;exact⟨by simp,λg h=>by simpa using h⟩
  .rw[if_neg hk];refine⟨?_,λg h=>?_⟩
   .rw[map_cons];exact mem_cons_of_mem _ z
   .rw[map_cons] at h ⊢;rcases mem_cons.mp h with e|e
    .exact mem_cons.mpr<|.inl e
    .exact mem_cons_of_mem _<|c g e
theorem fZ(f:Str)(v:V):∀fs:List (Str×V),(dY f v fs).length<=fs.length+1
 |[]=>by simp[dY]
 |(k,x)::r=>by
  have c:=fZ f v r;rw[show dY f v ((k,x)::r)=(if k=f then(k,v)::r else(k,x)::dY f v r) from rfl]
  by_cases hk:k=f
  .rw[if_pos hk,length_cons,length_cons];omega
  .rw[if_neg hk,length_cons,length_cons];omega
theorem fQ.some_of{v:V}{o:Option Value}(r:fQ (some v) o):∃u,o=some u/\RelV v u:=by
 cases o with
 |none=>exact(show False from r).elim
 |some u=>exact⟨u,rfl,r⟩
theorem fQ.none_of{o:Option Value}(r:fQ none o):o=none:=by
 cases o with
 |none=>rfl
 |some u=>exact(show False from r).elim
theorem sV{v:V}(r:RelV v u):PySem.W.handedIn u=true:=by
 cases v with
 |non=>cases(show u=Value.none from r);rfl
 |bl b=>cases(show u=Value.bool b from r);rfl
 |int i=>obtain⟨t,e⟩:=(show ∃t,u=Value.int i t from r);cases e;rfl
 |str x=>obtain⟨t,e⟩:=(show ∃t,u=Value.str x t from r);cases e;rfl
 |byt b=>obtain⟨t,e⟩:=(show ∃t,u=Value.bytes b t from r);cases e;rfl
 |flt b=>obtain⟨t,e⟩:=(show ∃t,u=Value.float b t from r);cases e;rfl
 |ref a=>cases(show u=Value.ref a from r);rfl
 |ty n=>cases(show u=Value.type n from r);rfl
section
variable{P:Program}{w:World}{H:Hp}{h:Heap}{a C dx:Addr}{fs:List (Str×V)}
theorem jG(c:ij P w H h)(e:H a=some (.ins C dx fs)):∃mA,ObjM h a dx C mA/\(∀f,fQ (fs.lookup f)<|mA f)/\PySem.Within mA (fs.map (·.1))/\fs.length<=1000/\H dx=some (.own a):=by obtain⟨d,z,ne,B,mA,n,r,q⟩:=(show bQ P w H h a (.ins C dx fs) from c a _ e);exact⟨mA,⟨B,n,ne⟩,r,q,z,d⟩
end
structure Cls(K:aF)(C:Addr):Prop where
 pg:PySem.W.plainGet K C Str.empty=true
 hd:PySem.W.hasDictIn K C=true
 po:PySem.W.plainOver K C=true
 sa:PySem.W.findIn K (.ref C) "__setattr__"=some (some<|.builtin "object.__setattr__")
theorem Cls.get{K:aF}(c:Cls K C)(f:Str):PySem.W.plainGet K C f=true:=c.pg
def fJ(K:aF)(C:Addr)(f:Str):Prop:=PySem.W.findIn K (.ref C) f=some none
theorem fJ.taker{K:aF}{f:Str}(n:fJ K C f):PySem.W.takerIn K C f=some none:=by unfold PySem.W.takerIn;rw[show PySem.W.findIn K (.ref C) f=some none from n];rfl
structure Meth(K:aF)(C:Addr)(m:Str)(f:Addr):Prop where
 at_:PySem.W.findIn K (.ref C) m=some (some<|.ref f)
 fn:PySem.W.isFn K (.ref f)=true
 kp:PySem.W.keepIn K (.ref f)=true
section
variable{X:Cx}{pins:List (Addr×Obj)}{W:St}{H:Hp}{s:Shared}{a C dx:Addr}{fs:List (Str×V)}{f:Str}{v:V}{A:Around}{E:Value->Shared->Prop}
theorem pV{b:Bool}(I:Inv X pins W H s)(e:H a=some (.ins C dx fs))(c:Cls X.K C)(n:fJ X.K C f)(l:fs.lookup f=some v)
  (h:∀u s',Inv X pins W H s'->RelV v u->Q u s'):wpAny (model X.prog X.w) A (getAttr (.ref a) f b) Q E s:=by
 obtain⟨mA,O,r,_,_,_⟩:=jG I.hok e;obtain⟨u,B,z⟩:=fQ.some_of (v:=v) (o:=mA f) (by rw[<-l];exact r f)
 exact yA I.kIn O (c.get f) c.hd n B (sV z)<|h u _ (I.tok _) z
theorem kz{m:Str}{g:Addr}{z:Sem Bool}{Q:Value×List Value->Shared->Prop}(I:Inv X pins W H s)(e:H a=some (.ins C dx fs))(c:Cls X.K C)(k:Meth X.K C m g)(l:fs.lookup m=none)
  (h:Q (.ref g,[.ref a]) s):wpAny (model X.prog X.w) A (getMethod (.ref a) m z) Q E s:=by
 obtain⟨mA,O,r,_,_,_⟩:=jG I.hok e;have B:mA m=none:=fQ.none_of (by rw[<-l];exact r m)
 exact vP I.kIn O (c.get m) k.at_ k.fn B h
theorem pq{y:V}{Q:Unit->Shared->Prop}(I:Inv X pins W H s)(e:H a=some (.ins C dx fs))(c:Cls X.K C)(n:fJ X.K C f)(hl:fs.length<1000)(U:RelV y u)
  (h:∀s',Inv X pins W (upd H a<|.ins C dx<|dY f y fs) s'->Q () s'):wpAny (model X.prog X.w) A (setAttr (.ref a) f u) Q E s:=by
 obtain⟨mA,O,r,F,_,ho⟩:=jG I.hok e;have Y:(fs.map (·.1)).length<=sizeLine:=by rw[length_map,sizeLine_eq];omega
 refine xv I.kIn O c.sa c.po n.taker c.hd F Y λh' B J=>h _ ?_;have hd:∃o,h'.get? dx=some o:=let⟨o,_,_,e',_⟩:=B.ns;⟨o,e'⟩;refine I.write (x:=a) (e:=dx) (by rw[e];exact True.intro) (.inr ho) (λb q hb z=>(J.2 b hb).trans z) hd ?_
 refine⟨by rw[aI O.ne];exact ho,?_,O.ne,B.obj,_,B.ns,λg=>?_,λg Z=>?_⟩
 .have:=fZ f y fs;omega
 .show fQ ((dY f y fs).lookup g) (if g=f then some u else mA g)
  rw[jm];by_cases q:g=f
  .rw[if_pos q,if_pos q];exact U
  .rw[if_neg q,if_neg q];exact r g
 .by_cases q:g=f
  .rw[q];exact(iX f y fs).1
  .refine(iX f y fs).2 g<|F g λz=>Z ?_;show(if g=f then some u else mA g)=none
   rw[if_neg q];exact z
theorem Inv.made(I:Inv X pins W H s):Inv X pins W (upd (upd H s.heap.objs.size<|.own<|s.heap.objs.size+1) (s.heap.objs.size+1)<|.ins C s.heap.objs.size [])
  {s with heap:=(s.heap.push PySem.W.emptyDict).push (PySem.W.instObj C s.heap.objs.size)}:=by
 have c:(s.heap.push PySem.W.emptyDict).get? s.heap.objs.size=some PySem.W.emptyDict:=aC s.heap rfl
 have J:((s.heap.push PySem.W.emptyDict).push<|PySem.W.instObj C s.heap.objs.size).get? (s.heap.objs.size+1)=some (PySem.W.instObj C s.heap.objs.size):=by have:=aC (s.heap.push PySem.W.emptyDict) (o:=PySem.W.instObj C s.heap.objs.size) rfl;rwa [Heap.size_push] at this
 have F:(s.heap.push PySem.W.emptyDict).Ns s.heap.objs.size (λ_=>none):=⟨PySem.W.emptyDict,#[],_,c,rfl,(λe B=>absurd B (by simp)),λ_=>rfl⟩
 have U:=I.laid (a:=s.heap.objs.size) (o:= .own<|s.heap.objs.size+1) (h':=s.heap.push PySem.W.emptyDict) (t':=s.toks) (λb u q=>ah _ q) (aa _) ⟨_,c⟩;refine U.laid (a:=s.heap.objs.size+1) (o:= .ins C s.heap.objs.size []) (t':=s.toks) (λb u q=>ah _ q) (Nat.le_of_eq<|Heap.size_push _ _) ?_;have ne:s.heap.objs.size≠s.heap.objs.size+1:=aw<|aJ _;refine⟨by rw[aI ne,bf],zero_le _,ne,J,λ_=>none,(Heap.Ns1.of_empty F).at λo q=>ah _ q,λ_=>True.intro,λy z=>absurd rfl z⟩
theorem yP{prog:Program}{env:Env}{f:Str}{s:Shared}(c:attributeBase e f env (eval e env)=eval e env)
  (h:wpAny (model prog w) A (eval e env) (λo s₁=>wpAny (model prog w) A (getAttr o f true) Q E s₁) E s):wpAny (model prog w) A (eval (.Attribute e f pos) env) Q E s:=
 Attribute_any_ h (by rw[arm_eval_Attribute,c])
end
def Ew(K:aF)(ta:TE)(f:Str):TE:=λW H Q=>ta W H λx H1=>∃a C dx fs v,x=.ref a/\H1 a=some (.ins C dx fs)/\Cls K C/\fJ K C f/\fs.lookup f=some v/\Q v H1
def EE(K:aF)(ta tv:TE)(f:Str):TS:=λD W H=>tv W H λy H1=>ta W H1 λx H2=>∃a C dx fs,x=.ref a/\H2 a=some (.ins C dx fs)/\Cls K C/\fJ K C f/\fs.length<1000/\
 D.nx W (upd H2 a<|.ins C dx<|dY f y fs)
section
variable{X:Cx}{o e value:Expr}{f:Str}{pos pos':Pos}{ta tv:TE}
theorem AE(J:PE X e ta)(U:attributeBase e f X.env (eval e X.env)=eval e X.env):PE X (.Attribute e f pos) (Ew X.K ta f):=by intro pins s W H Q I h;refine yP U<|bZ (J pins s W H _ I h) λu s1 F=>?_;obtain⟨x,H1,I1,z,a,C,dx,fs,v,ex,Y,c,n,l,q⟩:=F;subst ex;obtain rfl:u=Value.ref a:=z;exact pV I1 Y c n l λu' s2 Z B=>⟨v,H1,Z,B,q⟩
theorem Au(F:PE X o ta)(B:PE X value tv)(hs:swapsWith value (some<|.Attribute o f pos') pos.line X.env=pure false):PS X (.Assign [.Attribute o f pos'] value pos) (EE X.K ta tv f):=by intro pins s W H D I h;refine plainObj_wpAny_Assign_Attribute (bZ (B pins s W H _ I h) λu z ⟨y,H1,I1,ry,q⟩=>bZ (F pins z W H1 _ I1 q) λov Y ⟨x,H2,I2,rx,a,C,dx,fs,ex,ea,c,n,l,q2⟩=>?_) hs;subst ex;obtain rfl:ov=Value.ref a:=rx;exact pq I2 ea c n l ry λU J=>⟨W,_,J,q2⟩
end
section
variable{X:Cx}{pins:List (Addr×Obj)}{W:St}{H:Hp}{s:Shared}{A:Around}{E:Value->Shared->Prop}{Q:Value->Shared->Prop}{c:Value}{b:Bool}
inductive TyOf(K:aF)(H:Hp):V->Value->Prop where
 |non:TyOf K H .non (.type "NoneType")
 |bl (x:Bool):TyOf K H (.bl x) (.type "bool")
 |int (i:Int):TyOf K H (.int i) (.type "int")
 |str (x:Str):TyOf K H (.str x) (.type "str")
 |flt (x:UInt64):TyOf K H (.flt x) (.type "float")
 |lst {a:Addr}{xs:List V}(e:H a=some (.lst xs)):TyOf K H (.ref a) (.type "list")
 |frz {a:Addr}{o:Obj}{xs:List V}(e:H a=some (.frz o<|.lst xs)):TyOf K H (.ref a) (.type "list")
 |tup {a:Addr}{xs:List V}(e:H a=some (.tup xs)):TyOf K H (.ref a) (.type "tuple")
 |dK {a:Addr}{kvs:List (Key×V)}(e:H a=some (.dK kvs)):TyOf K H (.ref a) (.type "dict")
 |dT {a:Addr}{kvs:List (List Key×V)}(e:H a=some (.dT kvs)):TyOf K H (.ref a) (.type "dict")
 |ins {a C dx:Addr}{fs:List (Str×V)}(e:H a=some (.ins C dx fs))(cl:Cls K C)(ha:PySem.W.findIn K (.ref C) "__class__"=some (some<|.builtin "object.__class__"))
   (hn:PySem.W.specialIn K (.builtin "object.__class__") "__get__"=some (some<|.builtin "getset_descriptor.__get__")) (htk:PySem.W.takesIn K (.builtin "object.__class__")=some true)
   (hm:PySem.W.mroIn K C (.type "object")=some true):TyOf K H (.ref a) (.ref C)
theorem sP{x:V}{t:Value}(I:Inv X pins W H s)(B:RelV x u)(ty:TyOf X.K H x t)(e:PySem.W.kitOne X.K t c=some b)(h:∀tk,Q (.bool b) {s with toks:=tk}):
  wpAny (model X.prog X.w) A (call (.builtin "isinstance") [u,c]) Q E s:=by
 cases ty with
 |non=>cases(show u=Value.none from B);exact PySem.W.kia_one PySem.W.kitx_none I.kIn True.intro e (λz=>nomatch z) h
 |bl y=>cases(show u=Value.bool y from B);exact PySem.W.kia_one PySem.W.kitx_bool I.kIn True.intro e (λz=>nomatch z) h
 |int i=>obtain⟨t,q⟩:=(show ∃t,u=Value.int i t from B);cases q;exact PySem.W.kia_one PySem.W.kitx_int I.kIn True.intro e (λz=>nomatch z) h
 |str y=>obtain⟨t,q⟩:=(show ∃t,u=Value.str y t from B);cases q;exact PySem.W.kia_one PySem.W.kitx_str I.kIn True.intro e (λz=>nomatch z) h
 |flt y=>obtain⟨t,q⟩:=(show ∃t,u=Value.float y t from B);cases q;exact PySem.W.kia_one PySem.W.kitx_float I.kIn True.intro e (λz=>nomatch z) h
 | @lst a xs ea=>cases(show u=Value.ref a from B);obtain⟨_,_,n,_,h1⟩:=(show bQ X.prog X.w H s.heap a (.lst xs) from I.hok a _ ea);exact PySem.W.kia_one PySem.W.kitx_list I.kIn ⟨_,h1,rfl⟩ e (λz=>nomatch z) h
 | @frz a ob xs ea=>cases(show u=Value.ref a from B);obtain⟨_,_,_,n,_,h1⟩:=(show bQ X.prog X.w H s.heap a (.frz ob<|.lst xs) from I.hok a _ ea);exact PySem.W.kia_one PySem.W.kitx_list I.kIn ⟨_,h1,rfl⟩ e (λz=>nomatch z) h
 | @tup a xs ea=>cases(show u=Value.ref a from B);obtain⟨_,_,_,p⟩:=(show bQ X.prog X.w H s.heap a (.tup xs) from I.hok a _ ea);obtain⟨o,h1,h2,_⟩:=p;exact PySem.W.kia_one PySem.W.kitx_tuple I.kIn ⟨o,h1,h2.1⟩ e (λz=>nomatch z) h
 | @dK a kvs ea=>cases(show u=Value.ref a from B);obtain⟨_,_,vs,_,p⟩:=(show bQ X.prog X.w H s.heap a (.dK kvs) from I.hok a _ ea);obtain⟨o,es,ep,h1,h2,_⟩:=p;exact PySem.W.kia_one PySem.W.kitx_dict I.kIn ⟨o,h1,h2.1⟩ e (λz=>nomatch z) h
 | @dT a kvs ea=>cases(show u=Value.ref a from B);obtain⟨_,_,xs,_,o,es,ep,h1,h2,_⟩:=(show bQ X.prog X.w H s.heap a (.dT kvs) from I.hok a _ ea);exact PySem.W.kia_one PySem.W.kitx_dict I.kIn ⟨o,h1,h2.1⟩ e (λz=>nomatch z) h
 | @ins a C dx fs ea cl ha hn htk hm=>cases(show u=Value.ref a from B);obtain⟨mA,O,_⟩:=jG I.hok ea;obtain⟨F,J,_⟩:=O.look;exact PySem.W.kia_one (PySem.W.kitx_own (cl.get _) cl.hd ha hn htk hm) I.kIn J e (λz=>nomatch z) h
end
structure Room(k:Nat)(A:Around):Prop where
 hd:A.handled=none
 dp:A.depth+3*k+5<recursionLimit
 un:A.units+16*k+200<cLine
theorem Room.mono{k:Nat}(r:Room k A)(h:j<=k):Room j A:=⟨r.hd,by have:=r.dp;omega,by have:=r.un;omega⟩
theorem Room.deeper{k:Nat}(r:Room (k+1) A)(env:Env):Room k (A.deeper env):=
 ⟨r.hd,by have:=r.dp;show A.depth+1+3*k+5<_;omega,by have:=r.un;show A.units+3+16*k+200<_;omega⟩
theorem pK:(A.under<|.builtin "type.__call__" ⟨.ref C::us,kw⟩).depth=A.depth+1:=by
 first|rfl|simp[Around.under,Code.weight,Code.isCreation,Code.isGuard,Code.isCaller,Code.frames,Code.isFrame,guardIds]
theorem pJ:(A.under<|.builtin "type.__call__" ⟨.ref C::us,kw⟩).units=A.units+1:=by
 first|rfl|simp[Around.under,Code.cUnits,Code.frames,Code.isFrame]
theorem Room.make{k:Nat}(r:Room (k+1) A)(C:Addr)(us:List Value)(kw:List (Str×Value)):Room k (A.under<|.builtin "type.__call__" ⟨.ref C::us,kw⟩):=
 ⟨r.hd,by have:=r.dp;rw[pK];omega,by have:=r.un;rw[pJ];omega⟩
theorem Room.depth{k:Nat}(r:Room k A):A.depth<recursionLimit:=by have:=r.dp;omega
def xk:TA:=λ_ H Q=>Q [] H
def ud(ta:TE)(tr:TA):TA:=λW H Q=>ta W H λx H1=>tr W H1 λxs H2=>Q (x::xs) H2
section
variable{X:Cx}{e:Expr}{es:List Expr}{te:TE}{t:TA}{pos:Pos}
theorem dG:PA X [] xk:=λ_ _ _ _ H Q I h=>Calls.spliced_nil ⟨[],H,I,.nil,h⟩
theorem b_(J:PE X e te)(B:PA X es t)(hs:starEach (e::es) X.env=(false,eval e X.env)::starEach es X.env:=by rfl):PA X (e::es) (ud te t):=by intro pos pins s W H Q I h;rw[hs];show wpAny _ _ (spliced<|(false,eval e X.env)::backTo pos (starEach es X.env)) _ _ s;refine Calls.spliced_cons<|bZ (J pins s W H _ I h) λu c F=>?_;obtain⟨x,H1,U,z,q1⟩:=F;exact bZ (B pos pins c W H1 _ U q1) λus Y ⟨xs,H2,I2,r2,q2⟩=>⟨x::xs,H2,I2,.cons z r2,q2⟩
def El(t:TA):TE:=λW H Q=>t W H λxs H1=>xs.length<=sizeLine/\∀p,H1 p=none->Q (.ref p) (upd H1 p<|.tup xs)
def Es(t:TA):TE:=λW H Q=>t W H λxs H1=>xs.length<=sizeLine/\∀p,H1 p=none->Q (.ref p) (upd H1 p<|.lst xs)
theorem Az{x1}(h:PA X es t):PE X (.Tuple es x1 pos) (El t):=by
 intro pins s W H Q I B;refine wpAny_Tuple_spliced<|bZ (h pos pins s W H _ I B) λus c ⟨xs,H1,I1,r,z,q⟩=>⟨by rw[<-r.length];exact z,?_⟩
 have F:H1 c.heap.objs.size=none:=I1.hok.fresh<|aa _;refine⟨.ref c.heap.objs.size,upd H1 c.heap.objs.size<|.tup xs,I1.laid (t':=c.toks) (λb u e=>ah _ e) (aa _) ?_,rfl,q _ F⟩;exact⟨z,us,r,⟨_,aC _ rfl,⟨rfl,rfl⟩,_,rfl⟩⟩
theorem AD(h:PA X es t):PE X (.List es pos) (Es t):=by
 intro pins s W H Q I B;refine wpAny_List_spliced<|bZ (h pos pins s W H _ I B) λus c ⟨xs,H1,I1,r,z,q⟩=>⟨by rw[<-r.length];exact z,?_⟩
 have F:H1 c.heap.objs.size=none:=I1.hok.fresh<|aa _;refine⟨.ref c.heap.objs.size,upd H1 c.heap.objs.size<|.lst xs,I1.laid (t':=c.toks) (λb u e=>ah _ e) (aa _) ?_,rfl,q _ F⟩;exact⟨z,us,0,r,aC _ rfl⟩
end
abbrev Sp:=List V->Hp->VK->XK->Prop
abbrev wP:=List Env->Hp->Shared->XK->Value->Shared->Prop
structure Env0(P:Program)(w:World)(K:aF)(mg:Str->Option Value)(base:Heap)(A:Around)(outer:List Env)(s:Shared)(H:Hp):Prop where
 frames:A.frames=some outer
 mod:Mod K mg base
 bs:∀b o,base.get? b=some o->s.heap.get? b=some o/\H b=none
 bsz:base.objs.size<=s.heap.objs.size
 funs:s.heap.FunFrames base outer
 frf:∀b∈tF outer,H b=none
 hok:ij P w H s.heap
 bare:AllBare s.gens
def CE(outer:List Env)(P:Program)(w:World)(H:Hp)(s:Shared)(Q:VK)(u:Value)(s':Shared):Prop:=
 ∃v H',s'.os=s.os/\AllBare s'.gens/\Un (tF outer) [] H H' s.heap s'.heap/\ij P w H' s'.heap/\RelV v u/\Q v H'
def CR(CX:wP)(outer:List Env)(P:Program)(w:World)(H:Hp)(s:Shared)(Q:VK)(E:XK)(r:Result)(s':Shared):Prop:=
 match r with
 | .ok (.ret u)=>CE outer P w H s Q u s'
 | .ok _=>False
 | .error e=>CX outer H s E e s'
structure FnOk(P:Program)(w:World)(K:aF)(mg:Str->Option Value)(base:Heap)(CX:wP)(k:Nat)(f:Addr)(fd:FuncData)(ps:List Str)(sp:Sp):Prop where
 len:∀vs H Q E,sp vs H Q E->vs.length=ps.length
 run:∀(A:Around)(outer:List Env)(s:Shared)(H:Hp)(args:Args)(us:List Value) (vs:List V)(Q:VK)(E:XK),Room k A->Env0 P w K mg base A outer s H->BindsTo s fd args (ps.zip us)->bn vs us->sp vs H Q E->
  codeAny (model P w) A (.call (.ref f) args) (CR CX outer P w H s Q E) s
theorem FnOk.imp{K:aF}{CX:wP}{k:Nat}{f:Addr}{fd:FuncData}{ps:List Str}{sp c:Sp}(F:FnOk P w K mg base CX k f fd ps sp)
  (h:∀vs H Q E,c vs H Q E->sp vs H Q E):FnOk P w K mg base CX k f fd ps c:=
 ⟨λvs H Q E q=>F.len vs H Q E<|h _ _ _ _ q,λA outer s H args us vs Q E B I J z hs=>F.run A outer s H args us vs Q E B I J z<|h _ _ _ _ hs⟩
theorem Env0.make{K:aF}{outer:List Env}{H:Hp}(e:Env0 P w K mg base A outer s H)(C:Addr)(us:List Value)(kw:List (Str×Value)):
  Env0 P w K mg base (A.under<|.builtin "type.__call__" ⟨.ref C::us,kw⟩) outer s H:=⟨by first|exact e.frames|(simpa[Around.under,Code.envs,Code.isFrame,pushEnvs] using e.frames),e.mod,e.bs,e.bsz,e.funs,e.frf,e.hok,e.bare⟩
section
variable{X:Cx}{pins:List (Addr×Obj)}{W:St}{H:Hp}{s s':Shared}
theorem Inv.env0(I:Inv X pins W H s):Env0 X.prog X.w X.K X.mg X.base X.A X.stack s H:=
 ⟨I.ok.frames,I.ok.mod,I.bs,aM I.ok.bsz I.sz,I.stack,I.stkFree,I.hok,I.bare⟩
theorem Inv.after{Q:VK}(I:Inv X pins W H s)(h:CE X.stack X.prog X.w H s Q u s'):EP X pins W Q u s':=by
 obtain⟨v,H',os,bare,un,B,r,q⟩:=h;obtain⟨F,g,d,t,c⟩:=s';obtain rfl:c=s.os:=os;exact⟨v,H',I.call (h':=F) (g':=g) (d':=d) (t':=t) (ch:=[]) un B bare<|λb z=>absurd z (by simp),r,q⟩
end
def Cg(sp:Sp)(dvs:List V)(E:XK)(t:TA):TE:=λW H Q=>t W H λvs H1=>sp (vs++dvs) H1 Q E
def Cc(C:Addr)(sp:Sp)(dvs:List V)(E:XK)(t:TA):TE:=λW H Q=>t W H λvs H1=>∀x dx,H1 x=none->H1 dx=none->dx≠x->
 sp (.ref x::(vs++dvs)) (upd (upd H1 dx<|.own x) x<|.ins C dx []) (λv H2=>v=.non/\Q (.ref x) H2) E
def Binds(K:aF)(fd:FuncData)(ps:List Str)(ds:List Value):Prop:=
 ∀(s:Shared)(us:List Value),K.In s.heap->(us++ds).length=ps.length->BindsTo s fd ⟨us,[]⟩ (ps.zip<|us++ds)
theorem Binds.all{K:aF}{fd:FuncData}{ps:List Str}(h:∀us:List Value,us.length=ps.length->bindArgs fd ⟨us,[]⟩=pure (ps.zip us)):Binds K fd ps []:=λs us _ c=>by rw[append_nil] at c ⊢;exact .of_eq<|h us c
def kS(CX:wP)(X:Cx)(E:XK):Prop:=∀(pins:List (Addr×Obj))(W:St)(H:Hp)(s:Shared)(e:Value)(s':Shared),Inv X pins W H s->CX X.stack H s E e s'->X.xe e s'
section
variable{X:Cx}{CX:wP}{k:Nat}{f C:Addr}{fd:FuncData}{ps:List Str}{sp:Sp}{dvs:List V}{ds:List Value}{E:XK}{x:Str}{p pos:Pos}{e:Expr}{es:List Expr}{t:TA}
theorem Ah{W:St}{H:Hp}{Q:VK}{vs:List V}(F:FnOk X.prog X.w X.K X.mg X.base CX k f fd ps sp)(J:Room k X.A)(Y:Binds X.K fd ps ds)(hd:bn dvs ds)(B:kS CX X E)
  (I:Inv X pins W H s)(r:bn vs us)(h:sp (vs++dvs) H Q E):wpAny (model X.prog X.w) X.A (call (.ref f) us) (EP X pins W Q) X.xe s:=by
 have z:bn (vs++dvs) (us++ds):=r.append hd;have U:(us++ds).length=ps.length:=by rw[<-z.length];exact F.len _ _ _ _ h
 refine wpAny_call<|codeAny_mono (F.run X.A X.stack s H ⟨us,[]⟩ (us++ds) (vs++dvs) Q E J I.env0 (Y s us I.kIn U) z h) λr s' c=>?_;cases r with
 |error e=>exact B pins W H s e s' I c
 |ok fl=>
  cases fl with
  |ret u=>exact I.after c
  |_=>exact False.elim c
theorem xU(F:FnOk X.prog X.w X.K X.mg X.base CX k f fd ps sp)(B:Room k X.A)(Y:Gl X x)(J:X.mg x=some (.ref f))(U:PySem.W.keepIn X.K (.ref f)=true)(Z:Binds X.K fd ps ds)(hd:bn dvs ds)(z:kS CX X E)
  (ha:PA X (e::es) t)(c:(x==("__debug__":Str))=false:=by decide) (he:starEach (e::es) X.env=(false,eval e X.env)::starEach es X.env:=by rfl)(hpl:(backTo pos<|starEach es X.env).any (·.1)=false:=by rfl):
  PE X (.Call (.Name x p) (e::es) [] pos) (Cg sp dvs E t):=by
 intro pins s W H Q I h;refine wpAny_Call_Name_kw<|mz I Y J ?_ c;refine PySem.W.callWith_K (h₀:=X.base) I.ok.mod.kin U (bZ (ha pos pins s W H _ I h) λus s1 ⟨vs,H1,I1,r,q⟩=>⟨I1.kIn,?_⟩) he hpl;exact Ah F B Z hd z I1 r q
structure Mk(K:aF)(C f:Addr):Prop where
 makes:PySem.W.makesIn K C=true
 init:PySem.W.findIn K (.ref C) "__init__"=some (some<|.ref f)
 fn:PySem.W.isFn K (.ref f)=true
 kp:PySem.W.keepIn K (.ref C)=true
theorem uJ{W:St}{H:Hp}{Q:VK}{vs:List V}(M:Mk X.K C f)(F:FnOk X.prog X.w X.K X.mg X.base CX k f fd ps sp)(Z:Room (k+1) X.A)(hb:Binds X.K fd ps ds)(hd:bn dvs ds)
  (Y:kS CX X E)(I:Inv X pins W H s)(r:bn vs us)
  (h:∀x dx,H x=none->H dx=none->dx≠x->sp (.ref x::(vs++dvs)) (upd (upd H dx<|.own x) x<|.ins C dx []) (λv H2=>v=.non/\Q (.ref x) H2) E):
  wpAny (model X.prog X.w) X.A (call (.ref C) us) (EP X pins W Q) X.xe s:=by
 have J:=h (s.heap.objs.size+1) s.heap.objs.size (I.hok.fresh<|le_succ _) (I.hok.fresh<|aa _)<|aw<|aJ _;have z:=Inv.made (C:=C) I;have B:bn (V.ref (s.heap.objs.size+1)::(vs++dvs)) (Value.ref (s.heap.objs.size+1)::(us++ds)):= .cons rfl<|r.append hd
 have hl:(Value.ref (s.heap.objs.size+1)::us++ds).length=ps.length:=by have e:=B.length;rw[F.len _ _ _ _ J] at e;exact e.symm
 refine wpAny_call (vA (f:=f) I.kIn M.makes M.init (beq_iff_eq.mp M.fn) (codeAny_mono (F.run _ X.stack _ _ ⟨Value.ref (s.heap.objs.size+1)::us,[]⟩ (Value.ref (s.heap.objs.size+1)::(us++ds)) _ _ E (Z.make C us [])
  (z.env0.make C us []) (hb _ (Value.ref (s.heap.objs.size+1)::us) z.kIn hl) B J) λr s' c=>?_))
 cases r with
 |error e=>exact Y pins W _ _ e s' z c
 |ok fl=>
  cases fl with
  |ret u=>obtain⟨v,H',I3,rv,ev,U⟩:=z.after c;subst ev;exact⟨rv,⟨V.ref<|s.heap.objs.size+1,H',I3,rfl,U⟩⟩
  |_=>exact False.elim c
theorem xQ(M:Mk X.K C f)(F:FnOk X.prog X.w X.K X.mg X.base CX k f fd ps sp)(B:Room (k+1) X.A)(U:Gl X x)(J:X.mg x=some (.ref C))(Y:Binds X.K fd ps ds)(hd:bn dvs ds)(z:kS CX X E)
  (Z:PA X (e::es) t)(c:(x==("__debug__":Str))=false:=by decide) (he:starEach (e::es) X.env=(false,eval e X.env)::starEach es X.env:=by rfl)(hpl:(backTo pos<|starEach es X.env).any (·.1)=false:=by rfl):
  PE X (.Call (.Name x p) (e::es) [] pos) (Cc C sp dvs E t):=by
 intro pins s W H Q I h;refine wpAny_Call_Name_kw<|mz I U J ?_ c;refine PySem.W.callWith_K (h₀:=X.base) I.ok.mod.kin M.kp (bZ (Z pos pins s W H _ I h) λus s1 ⟨vs,H1,I1,r,q⟩=>⟨I1.kIn,?_⟩) he hpl;exact uJ M F B Y hd z I1 r q
end
section
end
structure FnScope(N P:List Str)(sc:Scope):Prop where
 kind:sc.kind=.function
 co:sc.isCoroutine=false
 gen:sc.isGenerator=false
 nd:N.Nodup
 pre:N.take P.length=P
 par:∀x∈P,sc.names.lookup x=some .local∨sc.names.lookup x=some .cell
 nofree:∀y∈sc.names,y.2≠ .free
theorem lT{kindOf:Str->Option NameKind}{x:Str}:∀{binds:List (Str×Value)}{m:Str->Option Value},(∀v,(x,v)∉binds)->bindL kindOf binds m x=m x
 |[],_,_=>rfl
 |(n,v)::r,m,h=>by
  unfold bindL;rw[lT λw hw=>h w<|mem_cons_of_mem _ hw];split
  .have:x≠n:=by rintro rfl;exact h v mem_cons_self
   simp[this]
  .rfl
theorem lV{kindOf:Str->Option NameKind}{x:Str}:∀{binds:List (Str×Value)}{m:Str->Option Value},(∀v,(x,v)∉binds)->bindC kindOf binds m x=m x
 |[],_,_=>rfl
 |(n,v)::r,m,h=>by
  unfold bindC;rw[lV λw hw=>h w<|mem_cons_of_mem _ hw];split
  .rfl
  .have:x≠n:=by rintro rfl;exact h v mem_cons_self
   simp[this]
theorem lU{kindOf:Str->Option NameKind}{x:Str}{v:Value}:∀{P:List Str}{vs:List Value}{i:Nat}{m:Str->Option Value},P.Nodup->P[i]? =some x->vs[i]? =some v->kindOf x=some .local->
  bindL kindOf (P.zip vs) m x=some v
 |[],_,_,_,_,h,_,_=>by simp at h
 |_::_,[],_,_,_,_,h,_=>by simp at h
 |p::P,w::vs,0,m,nd,h1,h2,hk=>by simp at h1 h2;subst h1;subst h2;show bindL kindOf ((p,w)::P.zip vs) m p=_;unfold bindL;rw[lT λv c=>(nodup_cons.mp nd).1 (of_mem_zip c).1,if_pos hk];simp
 |p::P,w::vs,i+1,m,nd,h1,h2,hk=>by
  show bindL kindOf ((p,w)::P.zip vs) m x=_;unfold bindL;exact lU (i:=i) (nodup_cons.mp nd).2 (by simpa using h1) (by simpa using h2) hk
theorem lW{kindOf:Str->Option NameKind}{x:Str}{v:Value}:∀{P:List Str}{vs:List Value}{i:Nat}{m:Str->Option Value},P.Nodup->P[i]? =some x->vs[i]? =some v->kindOf x≠some .local->
  bindC kindOf (P.zip vs) m x=some v
 |[],_,_,_,_,h,_,_=>by simp at h
 |_::_,[],_,_,_,_,h,_=>by simp at h
 |p::P,w::vs,0,m,nd,h1,h2,hk=>by simp at h1 h2;subst h1;subst h2;show bindC kindOf ((p,w)::P.zip vs) m p=_;unfold bindC;rw[lV λv c=>(nodup_cons.mp nd).1 (of_mem_zip c).1,if_neg hk];simp
 |p::P,w::vs,i+1,m,nd,h1,h2,hk=>by
  show bindC kindOf ((p,w)::P.zip vs) m x=_;unfold bindC;exact lW (i:=i) (nodup_cons.mp nd).2 (by simpa using h1) (by simpa using h2) hk
noncomputable def start(N:List Str)(vs:List V):St:=vs.map some++replicate (N.length - vs.length) none
noncomputable def p_(CX:wP)(P:Program)(w:World)(K:aF)(mg:Str->Option Value)(base:Heap)(N:List Str)(qual:Str)(scope:Scope)(f:Addr)(cd:Value)(A:Around)(outer:List Env)(s:Shared)(H:Hp)(E:XK):Cx where
 prog:=P
 w:=w
 K:=K
 mg:=mg
 base:=base
 A:=A.deeper<|envOfC qual scope s.heap.objs.size f cd
 N:=N
 s₀:=s
 H₀:=H
 env:=envOfC qual scope s.heap.objs.size f cd
 outer:=outer
 stack:=envOfC qual scope s.heap.objs.size f cd::outer
 ex:=[]
 calm:=true
 fn:=λ_=>true
 pn:=[]
 xe:=λe s'=>wpAny (model P w) (A.deeper<|envOfC qual scope s.heap.objs.size f cd) (leaving (envOfC qual scope s.heap.objs.size f cd) e) (λ_ s''=>CX outer H s E e s'') (λe' s''=>CX outer H s E e' s'') s'
theorem oS{sc:Scope}(h:sc.names.lookup x=some .cell):∃c,(cellsFrom n sc.names []).lookup x=some c:=by have q:=PySem.W.cellsFrom_some sc.names n []<|.inl h;exact isSome_iff_exists.mp q
theorem iY{CX:wP}{K:aF}{N ps:List Str}{scope:Scope}{f:Addr}{Y:Value}{outer:List Env}{Z:Shared}{H:Hp}{E:XK}{vs:List V}
  (S:FnScope N ps scope)(hd:A.handled=none)(B:Env0 P w K mg base A outer s H)(hl:vs.length=ps.length)(r:bn vs us)
  (x:InCallC s s.heap.objs.size (bindL (envOfC qual scope s.heap.objs.size f Y).kindOf (ps.zip us) λ_=>none) (cellsFrom (s.heap.objs.size+1) scope.names []) (bindC (envOfC qual scope s.heap.objs.size f Y).kindOf (ps.zip us) λ_=>none) Z):
  Inv (p_ CX P w K mg base N qual scope f Y A outer s H E) [] (start N vs) H Z:=by
 have hpl:ps.length<=N.length:=by have:=congrArg List.length S.pre;rw[length_take] at this;omega
 obtain⟨h1,tk,rfl,hk⟩:=x.done;have F:∀b:Addr,b∉(p_ CX P w K mg base N qual scope f Y A outer s H E).ex:=λb z=>absurd (show b∈([]:List Addr) from z) (by simp)
 refine⟨⟨B.mod,S.kind,rfl,rfl,aa _,λy z c h1 h2=>?_,λy I=>?_,λy c _ h=>?_,λ_=>hd,Around.frames_deeper B.frames,.inr ⟨rfl,rfl⟩,λb z=>absurd z<|F b,B.bs,B.bsz,λb _ _=>F b,λb z=>absurd z<|F b,B.funs,B.frf⟩,
  rfl,B.bare,Un.kept hk,⟨_,x.toInCall.ns,λi y v h1 h2 h3=>?_⟩,λy c h=>⟨_,x.cell y c h⟩,B.hok.fresh<|aa _,λy c h=>?_,λp U=>absurd (show p∈([]:List (Addr×Obj)) from U) (by simp),B.hok.kept hk,?_⟩
 .exact name_of_addr x.apart (aL h1)<|aL h2
 .have I:scope.names.lookup y=some .cell∨scope.names.lookup y=some .free:=I;rcases I with I|I
  .exact oS I
  .exact absurd rfl<|S.nofree _<|aL I
 .exact le_of_lt<|x.above y c<|aL h
 .have hi:i<vs.length:=by
   unfold start at h2;by_cases hi:i<vs.length
   .exact hi
   .rw[az (by simpa using hi)] at h2
    rw[List.getElem?_replicate] at h2;split at h2<;>cases h2
  have ha:vs[i]? =some v:=by
   unfold start at h2;rw[aB (by simpa using hi),aj] at h2
   cases e:vs[i]? with
   |none=>rw[e] at h2;cases h2
   |some a=>rw[e] at h2;cases h2;rfl
  obtain⟨u,hu,rv⟩:=r.get ha
  have U:ps[i]? =some y:=by
   rw[<-S.pre,List.getElem?_take_of_lt (by omega)];exact h1
  have J:ps.Nodup:=by rw[<-S.pre];exact S.nd.sublist<|List.take_sublist _ _
  refine⟨u,rv,?_⟩;rcases S.par y (ag U) with k|k
  .exact .inl ⟨k,lU J U hu k⟩
  .obtain⟨c,e⟩:=oS (n:=s.heap.objs.size+1) k;refine .inr ⟨.inl k,c,e,?_⟩;have q:=x.cell y c e;rw[lW J U hu (by show scope.names.lookup y≠_;rw[k];decide)] at q
   exact q
 .exact B.hok.fresh<|le_of_lt<|x.above y c<|aL h
 .unfold start;show _=N.length;rw[aE,length_map,length_replicate];omega
theorem Dl{CX:wP}{K:aF}{k:Nat}{f:Addr}{name:Str}{params:Arguments}{body:List Stmt}{scope:Scope}{dV kV Y pm c ct oc:Value}{an od:Option Addr}
  {Z:Array (Option Value)}{N ps:List Str}{sp:Sp}(lk:K.lookup f=some ⟨oc,od,.func<|PySem.W.fnOf name qual params body scope dV kV Y pm an c ct,Z⟩)(hcd:PySem.W.codeIn K c qual=true)(S:FnScope N ps scope)
  (len:∀vs H Q E,sp vs H Q E->vs.length=ps.length)
  (B:∀(A:Around)(outer:List Env)(s:Shared)(H:Hp)(vs:List V)(Q:VK)(E:XK),Room k (A.deeper<|envOfC qual scope s.heap.objs.size f c)->sp vs H Q E->
   ∃t,PSs (p_ CX P w K mg base N qual scope f c A outer s H E) body t/\t {nx:=λ_ H'=>Q .non H',rt:=Q} (start N vs) H):
  FnOk P w K mg base CX (k+1) f (PySem.W.fnOf name qual params body scope dV kV Y pm an c ct) ps sp:=by
 refine⟨len,λA outer s H args us vs Q E hr U hb r F=>?_⟩;have hl:=len _ _ _ _ F;have KX:K.In s.heap:=U.mod.kin.keeps λb o e=>(U.bs b o e).1;have lim:s.heap.NoLimit:=U.mod.nolimit.keeps λb o e=>(U.bs b o e).1
 have z:∀y∈ps.zip us,scope.names.lookup y.1=some .local∨(scope.names.lookup y.1=some .cell/\((cellsFrom (s.heap.objs.size+1) scope.names []).lookup y.1).isSome=true):=λ⟨n,v⟩ hy=>by
  rcases S.par n (of_mem_zip hy).1 with q|q
  .exact .inl q
  .exact .inr ⟨q,PySem.W.cellsFrom_some _ _ _<|.inl q⟩
 refine codeAny_call_function hr.depth (KX _ _ lk) rfl S.co S.gen rfl (PySem.W.codeRec_of KX hcd)<|hb _ _ _ _ ?_;refine wpAny_newFunctionEnv_cells S.kind z λenv he s1 x=>?_;subst he;refine⟨lim.keeps x.toInCall.keep,codeAny_func ?_⟩;obtain⟨t,ht,hq⟩:=B A outer s H vs Q E (hr.deeper _) F;have I:Inv (p_ CX P w K mg base N qual scope f c A outer s H E) [] (start N vs) H s1:=iY S hr.hd U hl r x;refine a9 (ht [] s1 (start N vs) H _ I hq) (λfl s' hs=>?_) λe s' hs=>hs
 have fin:∀{W':St}{H':Hp}{v:V}{u:Value},Inv (p_ CX P w K mg base N qual scope f c A outer s H E) [] W' H' s'->RelV v u->Q v H'->CE outer P w H s Q u s':=
  λ{W' H' v u} J rv q=>⟨v,H',J.os,J.bare,J.base,J.hok,rv,q⟩
 cases fl with
 |ret u=>obtain⟨v,W',H',J,rv,q⟩:=hs;exact fin J rv q
 |next=>obtain⟨W',H',J,q⟩:=hs;exact fin (v:=V.non) (u:=Value.none) J rfl q
 |_=>obtain⟨_,_,_,q⟩:=hs;exact False.elim q
section
variable{X:Cx}{x:Str}{p pos:Pos}{e:Expr}{es:List Expr}{t:TA}{id T:String}{r:List V->Hp->VK->Prop}
def Ey(r:List V->Hp->VK->Prop)(t:TA):TE:=λW H Q=>t W H λvs H1=>r vs H1 Q
theorem iy(U:eM X (.builtin id) r)(J:Gl X x)(F:X.mg x=none)(z:bootBuiltins x=some (.builtin id))(Y:PA X (e::es) t)(B:x≠ "__name__":=by decide)(hdb:(x==("__debug__":Str))=false:=by decide)
  (he:starEach (e::es) X.env=(false,eval e X.env)::starEach es X.env:=by rfl)(hpl:(backTo pos<|starEach es X.env).any (·.1)=false:=by rfl):PE X (.Call (.Name x p) (e::es) [] pos) (Ey r t):=by
 intro pins s W H Q I h;refine wpAny_Call_Name_kw<|ft I J F z ?_ B hdb;exact PyProof.Rows.callWith_builtin1 (bZ (Y pos pins s W H _ I h) λus c ⟨vs,H1,I1,r1,q1⟩=>U pins c W H1 vs us Q I1 r1 q1) he hpl
theorem sF(U:eM X (.type T) r)(J:Gl X x)(F:X.mg x=none)(z:bootBuiltins x=some (.type T))(Y:PA X (e::es) t)(B:x≠ "__name__":=by decide)(hdb:(x==("__debug__":Str))=false:=by decide)
  (he:starEach (e::es) X.env=(false,eval e X.env)::starEach es X.env:=by rfl)(hpl:(backTo pos<|starEach es X.env).any (·.1)=false:=by rfl):PE X (.Call (.Name x p) (e::es) [] pos) (Ey r t):=by
 intro pins s W H Q I h;refine wpAny_Call_Name_kw<|ft I J F z ?_ B hdb;exact a7 (bZ (Y pos pins s W H _ I h) λus c ⟨vs,H1,I1,r1,q1⟩=>U pins c W H1 vs us Q I1 r1 q1) he hpl
end
end L2
namespace HT
open PySem PyProof.Rows
variable{hi lo:Option Int}{vl vu:Value}
section
open PySem.SeqAt
open PySem.AutoSeq1 (wpAny_loadPart')
open PySem.MeetsSeq PySem.MeetsSeq2 PySem.MeetsSeq3
end
section
variable{prog:Program}{w:World}{A:Around}{E:Value->Shared->Prop}{s:Shared}
noncomputable def cV(n d:Nat):Option Int->Nat
 |none=>d
 |some v=>if v<0 then(v+(n:Int)).toNat else min v.toNat n
theorem ir(n d:Nat):cV n d none=d:=rfl
theorem iu(n d k:Nat):cV n d (some (k:Int))=min k n:=by
 show(if(k:Int)<0 then((k:Int)+(n:Int)).toNat else min (k:Int).toNat n)=min k n
 rw[if_neg (by omega),toNat_natCast]
theorem Ag(n d:Nat)(hd:d<=n)(o:Option Int):cV n d o<=n:=by
 cases o with
 |none=>exact hd
 |some v=>
  show(if v<0 then(v+(n:Int)).toNat else min v.toNat n)<=n
  by_cases hv:v<0
  .rw[if_pos hv];omega
  .rw[if_neg hv];exact Nat.min_le_right _ _
theorem rN(v:Int)(n d:Nat):(if v<0 then max (v+(n:Int)) 0 else min v (n:Int))=((cV n d (some v):Nat):Int):=by
 show(if v<0 then max (v+(n:Int)) 0 else min v (n:Int))=(((if v<0 then(v+(n:Int)).toNat else min v.toNat n):Nat):Int)
 by_cases hv:v<0
 .simp only[if_pos hv];omega
 .simp only[if_neg hv];omega
theorem qh(lo hi:Option Int)(n:Nat):Builtin.Slice.sliceAdjust lo hi 1 (n:Int)=(((cV n 0 lo:Nat):Int),((cV n n hi:Nat):Int)):=by
 have h1:¬((1:Int)<0):=by omega
 unfold Builtin.Slice.sliceAdjust;simp only[h1,if_false];refine Prod.ext ?_ ?_
 .cases lo with
  |none=>rfl
  |some v=>exact rN v n 0
 .cases hi with
  |none=>rfl
  |some v=>exact rN v n n
theorem pF(i j:Nat):Builtin.Slice.slicePlaces (i:Int) (j:Int) 1=j - i:=by
 unfold Builtin.Slice.slicePlaces;have h1:(1:Int)>0:=by omega
 simp only[h1,if_true,Int.ediv_one];split<;>omega
theorem jW{v:Value}{o:Option Int}{Q:Option Int->Shared->Prop}(p:IsPart v o)(h:Q o s):wpAny (model prog w) A (Builtin.Slice.slicePartIndex v) Q E s:=by
 cases p with
 |none=>exact slicePart_none h
 |int i t=>exact slicePart_int h
theorem iU{sl:Addr}{n:Nat}{Q:Int×Int×Nat->Shared->Prop}(hs:s.heap.IsSliceOf sl vl vu .none)(F:IsPart vl lo)(B:IsPart vu hi)
  (h:Q (((cV n 0 lo:Nat):Int),1,cV n n hi - cV n 0 lo) s):wpAny (model prog w) A (Builtin.Slice.sliceApplied (.ref sl)<|pure (n:Int)) Q E s:=by
 obtain⟨os,c,H,z⟩:=id hs;unfold Builtin.Slice.sliceApplied Builtin.Slice.sliceFields;refine ae<|ae<|bT c z (x:=vl) rfl<|ae<|bT c z (x:=vu) rfl<|ae<|bT c z (x:= .none) rfl<|ai ?_;refine ae<|slicePart_none ?_;show wpAny _ _ (if((1:Int)==0)=true then _ else _) _ _ s
 rw[if_neg (by decide)]
 refine ae<|jW F<|ae<|jW B<|ae<|ai ?_;show wpAny _ _ (match Builtin.Slice.sliceAdjust lo hi 1 (n:Int) with|(lo,hi)=>pure (lo,(1:Int),Builtin.Slice.slicePlaces lo hi 1)) _ _ s
 rw[qh lo hi n];show wpAny _ _ (pure (((cV n 0 lo:Nat):Int),(1:Int),Builtin.Slice.slicePlaces ((cV n 0 lo:Nat):Int) ((cV n n hi:Nat):Int) 1)) _ _ s;rw[pF];exact ai h
theorem u_(xs:Array Value)(i k:Nat):((range k).filterMap λ(m:Nat)=>xs[((i:Int)+(m:Int)*1).toNat]?).toArray=((xs.toList.drop i).take k).toArray:=by
 have e:(λ(m:Nat)=>xs[((i:Int)+(m:Int)*1).toNat]?)=λm=>xs[i+m]?:=by
  funext m;have:((i:Int)+(m:Int)*1).toNat=i+m:=by omega
  rw[this]
 rw[e];have:=pick_run xs i k;rw[filterMap_map] at this;have c:((λx=>xs[x]?) ∘ λx=>i+x)=λm=>xs[i+m]?:=rfl;rw[c] at this;rw[this]
theorem iH{t sl:Addr}{items:Array Value}{Q:Value->Shared->Prop}(ht:IsTup s.heap t items)(hs:s.heap.IsSliceOf sl vl vu .none)(J:IsPart vl lo)(I:IsPart vu hi)
  (hw:¬(cV items.size 0 lo=0/\cV items.size items.size hi=items.size))
  (h:Q (.ref s.heap.objs.size) {s with heap:=s.heap.push {cls:= .type "tuple",data:= .seq ((items.toList.drop<|cV items.size 0 lo).take<|cV items.size items.size hi - cV items.size 0 lo).toArray}})
  (hsz:items.size<=sizeLine):wpAny (model prog w) A (getItem (.ref t)<|.ref sl) Q E s:=by
 have c:sizeOk (.seq ((items.toList.drop<|cV items.size 0 lo).take<|cV items.size items.size hi - cV items.size 0 lo).toArray):=by show((items.toList.drop<|cV items.size 0 lo).take<|cV items.size items.size hi - cV items.size 0 lo).toArray.size<=sizeLine;rw[size_toArray,length_take,length_drop,length_toList];omega
 have Y:cV items.size items.size hi<=items.size:=Ag _ _ (aa _) hi;obtain⟨os,z,F,U⟩:=id hs;have H:s.TypeIs (.ref sl) "slice":=⟨os,z,F⟩;unfold getItem
 try with_reducible refine wpAny_holding ?_
 first|refine ae (ai ?_)|skip
 refine ae<|wpAny_sequenceKey ht.typeIs (by decide) ?_
 refine ae (wpAny_callSpecial?_slot (name:=Str.ofString "__getitem__") ht.typeIs PyProof.Rows.slot_tuple_getitem
  (wpAny_call_entry PyProof.Rows.slot_tuple_getitem ht.typeIs entry_tuple_getitem ?_<|args_tuple_getitem _ _))
 show wpAny _ _ (Builtin.Tuple.tupleItemsOf (.ref t)>>=_) _ _ s;refine ae<|tupleItemsOf_ ht ?_;refine ae<|wpAny_typeOf H ?_;rw[if_pos (by decide)]
 refine ae<|iU hs J I ?_
 have B:¬((((cV items.size 0 lo:Nat):Int)==0&&(1:Int)==1&&(cV items.size items.size hi - cV items.size 0 lo)==items.size)=true):=by
  intro q;rw[and_eq_true,and_eq_true] at q;have q1:((cV items.size 0 lo:Nat):Int)=0:=eq_of_beq q.1.1;have q2:cV items.size items.size hi - cV items.size 0 lo=items.size:=eq_of_beq q.2;exact hw ⟨by omega,by omega⟩
 show wpAny _ _ (if(((cV items.size 0 lo:Nat):Int)==0&&(1:Int)==1&&(cV items.size items.size hi - cV items.size 0 lo)==items.size)=true then _ else _) _ _ s
 rw[if_neg B,u_]
 first
  |exact ae (m:=Builtin.Tuple.tupleExact _)<|wpAny_newObj_type (ai ⟨_,rfl,ai h⟩) c
  |exact ae (m:=Builtin.Tuple.tupleExact _)<|wpAny_newObj_type (ae<|ai<|ai ⟨_,rfl,ai h⟩) c
  |exact ae<|ae (m:=Builtin.Tuple.tupleExact _)<|wpAny_newObj_type (ai<|ai ⟨_,rfl,ai h⟩) c
  |exact ae<|ae (m:=Builtin.Tuple.tupleExact _)<|wpAny_newObj_type (ai ⟨_,rfl,ai h⟩) c
end
end HT
namespace L2
open PySem PySem.Spec PyProof.Rows
variable{n t':Nat}{pins:List (Addr×Obj)}{its its':List Value}
abbrev TO:=St->Hp->(Option Int->Hp->Prop)->Prop
def PO(X:Cx)(e:Option Expr)(t:TO):Prop:=
 ∀(pins:List (Addr×Obj))(s:Shared)(W:St)(H:Hp)(Q:Option Int->Hp->Prop),Inv X pins W H s->t W H Q->
  wpAny (model X.prog X.w) X.A (evalPart e X.env) (λu s'=>∃o H',Inv X pins W H' s'/\IsPart u o/\Q o H') X.xe s
def qt:TO:=λ_ H Q=>Q none H
def y4(t:TE):TO:=λW H Q=>t W H λx H1=>∃i,x=.int i/\Q (some i) H1
theorem intsAre_of{ns:List Int}:∀{us:List Value},bn (ns.map V.int) us->IntsAre us ns:=by
 induction ns with
 |nil=>intro us r;rw[map_nil] at r;cases r;exact .nil
 |cons n ns ih=>
  intro us r;rw[map_cons] at r;cases r with
  |cons r1 r2=>obtain⟨t,e⟩:=r1;subst e;exact .cons n t<|ih r2
section
variable{X:Cx}{e:Expr}{te:TE}{lo hi:Option Expr}{tl th:TO}{pos p2:Pos}
theorem qJ:PO X none qt:=by intro pins s W H Q I h;rw[evalPart_none];exact ai ⟨none,H,I,.none,h⟩
theorem jC(h:PE X e te):PO X (some e) (y4 te):=by intro pins s W H Q I hw;rw[evalPart_some];refine bZ (h pins s W H _ I hw) λu F z=>?_;obtain⟨x,H1,B,c,q1⟩:=z;obtain⟨i,rfl,q⟩:=q1;obtain⟨t,rfl⟩:=c;exact⟨some i,H1,B,.int i t,q⟩
def Ea(X:Cx)(r:V->Option Int->Option Int->Hp->VK->Prop):Prop:=
 ∀(pins:List (Addr×Obj))(s:Shared)(W:St)(H:Hp)(x:V)(v vl vu:Value)(lo hi:Option Int)(sl:Addr)(Q:VK),Inv X pins W H s->RelV x v->s.heap.IsSliceOf sl vl vu .none->IsPart vl lo->IsPart vu hi->r x lo hi H Q->
  ∃T id,typeLookup (.type T) "__getitem__"=pure (some<|.builtin id)/\s.TypeIs v T/\wpAny (model X.prog X.w) X.A (getItem v<|.ref sl) (EP X pins W Q) X.xe s
def FO(r:V->Option Int->Option Int->Hp->VK->Prop)(te:TE)(tl th:TO):TE:=λW H Q=>te W H λx H1=>tl W H1 λl H2=>th W H2 λu H3=>r x l u H3 Q
theorem vg{r:V->Option Int->Option Int->Hp->VK->Prop}(hr:Ea X r)(he:PE X e te)(hl:PO X lo tl)(hu:PO X hi th):PE X (.Subscript e (.Slice lo hi none p2) pos) (FO r te tl th):=by
 intro pins s W H Q I h;refine Subscript_<|bZ (he pins s W H _ I h) λv J z=>?_;obtain⟨x,H1,I1,U,q1⟩:=z;refine wpAny_Slice<|bZ (hl pins J W H1 _ I1 q1) λvl F ⟨l,H2,I2,pl,q2⟩=>bZ (hu pins F W H2 _ I2 q2) λvu c z=>?_;obtain⟨u,B,I3,Z,Y⟩:=z;rw[evalPart_none];refine ai ?_;have I4:Inv X pins W B {c with heap:=c.heap.push {cls:= .type "slice",data:= .fields #[vl,vu,.none]}}:=I3.kept (t':=c.toks) λb ob q=>ah _ q;obtain⟨T,id,hT,ht,hg⟩:=hr pins {c with heap:=c.heap.push {cls:= .type "slice",data:= .fields #[vl,vu,.none]}} W B x v vl vu l u c.heap.objs.size Q I4 U (Heap.IsSliceOf.new ..) pl Z Y;show wpAny (model X.prog X.w) X.A (subscriptTail e (.Slice lo hi none p2) v<|.ref c.heap.objs.size) (EP X pins W Q) X.xe {c with heap:=c.heap.push {cls:= .type "slice",data:= .fields #[vl,vu,.none]}};exact tail_any (ops:=[.ref c.heap.objs.size,v]) ht hT hg (by with_unfolding_all rfl)
noncomputable def oP(xs:List V)(lo hi:Option Int):List V:=(xs.drop<|HT.cV xs.length 0 lo).take<|HT.cV xs.length xs.length hi - HT.cV xs.length 0 lo
theorem jr(xs:List V)(lo hi:Option Int):(oP xs lo hi).length<=xs.length:=by unfold oP;rw[length_take,length_drop];omega
def EG(K:aF):V->Option Int->Option Int->Hp->VK->Prop:=λx lo hi H Q=>∃a xs,x=.ref a/\fP K H a xs/\
 ¬(HT.cV xs.length 0 lo=0/\HT.cV xs.length xs.length hi=xs.length)/\∀p,H p=none->Q (.ref p) (upd H p<|.tup<|oP xs lo hi)
theorem zY:Ea X (EG X.K):=by
 intro pins s W H x v vl vu lo hi sl Q I B hs J F h;obtain⟨a,xs,rfl,U,hw,q⟩:=h;cases B;obtain⟨its,r,ht,z⟩:=I.tuple U;have c:its.toArray.size=xs.length:=by rw[size_toArray];exact r.length.symm
 refine⟨"tuple",_,PyProof.Rows.slot_tuple_getitem.lookup,ht.typeIs,?_⟩;refine HT.iH ht hs J F (by rw[c];exact hw) ?_ (by rw[c];exact z)
 rw[c];refine⟨.ref s.heap.objs.size,_,I.laid (t':=s.toks) (o:= .tup<|oP xs lo hi) (λb Y q=>ah _ q) (aa _) ?_,rfl,q _<|I.hok.fresh<|aa _⟩;exact⟨aM (jr xs lo hi) z,_,(r.drop<|HT.cV xs.length 0 lo).take<|HT.cV xs.length xs.length hi - HT.cV xs.length 0 lo,nq.new _ _⟩
end
noncomputable def sO(n:Nat)(i:Int):Option Nat:=if 0<=i then(if i<n then some i.toNat else none) else if -(n:Int)<=i then some (i+n).toNat else none
def iM{α:Type}(xs:List α)(i:Int):Option α:=(sO xs.length i).bind λj=>xs[j]?
theorem q_{i:Int}{j:Nat}(h:sO n i=some j):seqIndex? i n=some j/\j<n/\ -(n:Int)<=i/\i<n:=by
 unfold sO at h;by_cases h0:0<=i
 .rw[if_pos h0] at h;by_cases h1:i<n
  .rw[if_pos h1] at h;have e:i.toNat=j:=ak h;exact⟨by rw[seqIndex_of h0 h1,e],by omega,by omega,h1⟩
  .rw[if_neg h1] at h;cases h
 .rw[if_neg h0] at h;by_cases h1: -(n:Int)<=i
  .rw[if_pos h1] at h;have e:(i+n).toNat=j:=ak h;exact⟨by rw[seqIndex_neg (by omega) h1,e],by omega,h1,by omega⟩
  .rw[if_neg h1] at h;cases h
theorem ng{α:Type}{xs:List α}{i:Int}{v:α}(h:iM xs i=some v):∃j,seqIndex? i xs.length=some j/\xs[j]? =some v/\j<xs.length/\ -(xs.length:Int)<=i/\i<xs.length:=by
 unfold iM at h;cases e:sO xs.length i with
 |none=>rw[e] at h;cases h
 |some j=>rw[e] at h;obtain⟨h1,h2,z,c⟩:=q_ e;exact⟨j,h1,h,h2,z,c⟩
noncomputable def yU(b:Expr):Prop:=∀o i,subscripted b false o i=operate [o,i] (getItem o i)
def Ec(X:Cx)(r:R2):Prop:=
 ∀(value slice:Expr)(pins:List (Addr×Obj))(s:Shared)(W:St)(H:Hp)(x y:V)(v u:Value)(Q:VK),Inv X pins W H s->RelV x v->RelV y u->r x y H Q->
  subscripted slice false v u=operate [v,u] (getItem v u)->wpAny (model X.prog X.w) X.A (subscriptTail value slice v u) (EP X pins W Q) X.xe s
def FJ(X:Cx)(id:String)(r:V->List V->Hp->VK->Prop):Prop:=
 ∀(pins:List (Addr×Obj))(s:Shared)(W:St)(H:Hp)(x:V)(xs:List V) (v:Value) (us:List Value)(Q:VK),Inv X pins W H s->RelV x v->bn xs us->r x xs H Q->
  wpAny (model X.prog X.w) X.A (call (.builtin id)<|v::us) (EP X pins W Q) X.xe s
section
variable{X:Cx}{a b:Expr}{ta tb:TE}{pos:Pos}
theorem CK{r:R2}(F:Ec X r)(U:PE X a ta)(J:PE X b tb)(hs:yU b):PE X (.Subscript a b pos) (B_ r ta tb):=by intro pins s W H Q I h;exact Subscript_<|BC U J I h λv u c x y Z Y B z q=>F a b pins c W Z x y v u Q Y B z q<|hs _ _
def EM(K:aF):R2:=λx y H Q=>∃p xs i v,x=.ref p/\y=.int i/\dO K H p xs/\iM xs i=some v/\Q v H
noncomputable def EL(K:aF):R2:=λx y H Q=>∃p xs i v,x=.ref p/\y=.int i/\fP K H p xs/\iM xs i=some v/\Q v H
theorem yk:Ec X (EM X.K):=by
 intro value slice pins s W H x y v u Q I Y U h hs;obtain⟨p,xs,i,z,rfl,rfl,Z,he,q⟩:=h;cases Y;obtain⟨t,rfl⟩:=U;obtain⟨its,r,B,hz⟩:=I.list Z;obtain⟨j,h1,h2,h3,h4,h5⟩:=ng he;obtain⟨w,J,c⟩:=r.get h2;have hl:=r.length;have hn:=kb;have fin:EP X pins W Q w s:=⟨z,H,I,c,q⟩;by_cases h0:0<=i
 .have F:i.toNat=j:=by rw[seqIndex_of h0 h5] at h1;exact ak h1
  exact item_listR B.isList h0 (by omega) (by rw[F];simpa using J) fin hs
 .have F:(i+(its.toArray.size:Int)).toNat=j:=by
   rw[seqIndex_neg (by omega) h4] at h1
   rw[size_toArray,<-hl];exact ak h1
  exact subscriptTail_builtinR (x:=w) B.isList.typeIs slot_list_getitem.lookup
   (wpAny_getItem_list_neg (Q:=λr s'=>r=w/\EP X pins W Q r s') B.isList (by omega) (by rw[size_toArray]<;>omega) (by omega) (by rw[F];simpa using J) ⟨rfl,fin⟩) hs
theorem A2:Ec X (EL X.K):=by
 intro value slice pins s W H x y v u Q I J F h hs;obtain⟨p,xs,i,z,rfl,rfl,U,Z,q⟩:=h;cases J;obtain⟨t,rfl⟩:=F;obtain⟨its,r,B,hz⟩:=I.tuple U;obtain⟨j,h1,h2,h3,h4,h5⟩:=ng Z;obtain⟨w,ew,c⟩:=r.get h2;have Y:=r.length;have hn:=kb;have fin:EP X pins W Q w s:=⟨z,H,I,c,q⟩
 exact subscriptTail_builtinR (x:=w) B.typeIs slot_tuple_getitem.lookup
  (getItem_tuple (j:=j) (Q:=λr s'=>r=w/\EP X pins W Q r s') B (by omega) (by omega) (by rw[size_toArray,<-Y];exact h1) (by simpa using ew) ⟨rfl,fin⟩) hs
theorem pI(its:List Value)(n j:Nat)(u:Value):Obj.mapSeq (·.setIfInBounds j u) {cls:= .type "list",data:= .seq its.toArray n}={cls:= .type "list",data:= .seq (its.set j u).toArray n}:=by simp[Obj.mapSeq]
theorem Inv.lst{W:St}{H:Hp}{s:Shared}{p:Addr}{xs:List V}(I:Inv X pins W H s)(h:H p=some (.lst xs)):
  ∃(its:List Value)(n:Nat),bn xs its/\s.heap.get? p=some {cls:= .type "list",data:= .seq its.toArray n}/\xs.length<=sizeLine:=by
 obtain⟨z,its,n,r,e⟩:=I.hok p _ h;exact⟨its,n,r,e,z⟩
theorem Inv.lstUpd{W:St}{H:Hp}{s:Shared}{p:Addr}{xs ys:List V}{c:Nat}{f:Obj->Obj}(I:Inv X pins W H s)(h:H p=some (.lst xs))
  (ho:s.heap.get? p=some {cls:= .type "list",data:= .seq its.toArray n}) (z:f {cls:= .type "list",data:= .seq its.toArray n}={cls:= .type "list",data:= .seq its'.toArray c}) (r:bn ys its')(B:ys.length<=sizeLine)(t:Nat):
  Inv X pins W (upd H p<|.lst ys) {s with heap:=s.heap.update p f,toks:=t}:=by
 have e:(s.heap.update p f).get? p=some {cls:= .type "list",data:= .seq its'.toArray c}:=by
  rw[Heap.get?_update_self f ho (by rw[z]<;>rfl),z]
 refine I.write (x:=p) (e:=p) (by rw[h];trivial) (.inl rfl) (λb u F q=>(Heap.get?_update_other _ _<|Ne.symm F).trans q) ⟨_,e⟩ ?_
 exact⟨B,its',c,r,e⟩
def CB:V->V->V->Hp->(Hp->Prop)->Prop:=λo i v H Q=>∃p xs k j,o=.ref p/\i=.int k/\H p=some (.lst xs)/\sO xs.length k=some j/\Q (upd H p<|.lst<|xs.set j v)
theorem set_list:BI X CB:=by
 intro pins s W H o i v ov iv u Q I Y Z rv h;obtain⟨p,xs,k,j,rfl,rfl,B,hj,q⟩:=h;cases Y;obtain⟨t,rfl⟩:=Z;obtain⟨its,n,r,ho,hz⟩:=I.lst B;obtain⟨h1,h2,J,F⟩:=q_ hj;have c:=r.length;have hn:=kb
 have U:Inv X pins W (upd H p<|.lst<|xs.set j v) {s with heap:=s.heap.update p (Obj.mapSeq (·.setIfInBounds j u))}:=
  I.lstUpd B ho (pI its n j u) (r.set rv j) (by rw[aA];exact hz) s.toks
 by_cases h0:0<=k
 .have z:k.toNat=j:=by rw[seqIndex_of h0 F] at h1;exact ak h1
  exact PySem.W.ki_setAt ho h0 (by omega) (by rw[size_toArray,<-c];exact F) (by rw[z];exact⟨_,U,q⟩)
 .have z:(k+(its.toArray.size:Int)).toNat=j:=by
   rw[seqIndex_neg (by omega) J] at h1
   rw[size_toArray,<-c];exact ak h1
  exact PySem.W.ki_setBack ho (by omega) (by rw[size_toArray,<-c];exact J) (by omega) (by rw[z];exact⟨_,U,q⟩)
theorem mo(lo hi:Option Int)(n:Nat):(sliceBounds lo hi none n).1=((HT.cV n 0 lo:Nat):Int)/\(sliceBounds lo hi none n).2.1=((HT.cV n n hi:Nat):Int)/\(sliceBounds lo hi none n).2.2=1:=by
 refine⟨?_,?_,rfl⟩
 .cases lo with
  |none=>simp[sliceBounds,HT.cV]
  |some i=>
   simp only[sliceBounds,HT.cV,getD_none,show(1:Int)>0 by decide,if_true]
   by_cases h:i<0
   .simp only[h,if_true]<;>omega
   .simp only[h,if_false]<;>omega
 .cases hi with
  |none=>simp[sliceBounds,HT.cV]
  |some i=>
   simp only[sliceBounds,HT.cV,getD_none,show(1:Int)>0 by decide,if_true]
   by_cases h:i<0
   .simp only[h,if_true]<;>omega
   .simp only[h,if_false]<;>omega
theorem kZ(its:List Value)(lo hi:Option Int):slicePick its.toArray lo hi none=((its.drop<|HT.cV its.length 0 lo).take<|HT.cV its.length its.length hi - HT.cV its.length 0 lo).toArray:=by obtain⟨h1,h2,c⟩:=mo lo hi its.toArray.size;unfold slicePick;rw[h1,h2,c];simp only[sliceRange_one,pick_run,size_toArray]<;>rfl
def EI(K:aF):V->Option Int->Option Int->Hp->VK->Prop:=λx lo hi H Q=>∃a xs,x=.ref a/\dO K H a xs/\∀p,H p=none->Q (.ref p) (upd H p<|.lst<|oP xs lo hi)
theorem xq:Ea X (EI X.K):=by
 intro pins s W H x v vl vu lo hi sl Q I z hs F B h;obtain⟨a,xs,rfl,U,q⟩:=h;cases z;obtain⟨its,r,ht,J⟩:=I.list U;have c:=r.length;refine⟨"list",_,slot_list_getitem.lookup,ht.isList.typeIs,?_⟩;refine wpAny_getItem_list_slice ht.isList hs F B .none (by simp) ?_ (by rw[size_toArray]<;>omega)
 rw[kZ,<-c];refine⟨.ref s.heap.objs.size,_,I.laid (t':=s.toks) (o:= .lst<|oP xs lo hi) (λb Y q=>ah _ q) (aa _) ?_,rfl,q _<|I.hok.fresh<|aa _⟩;exact⟨aM (jr xs lo hi) J,_,0,(r.drop<|HT.cV xs.length 0 lo).take<|HT.cV xs.length xs.length hi - HT.cV xs.length 0 lo,aC _ rfl⟩
theorem mZ:eM X (.builtin "len") (λxs H Q=>∃p ys,xs=[.ref p]/\(dO X.K H p ys∨fP X.K H p ys)/\Q (.int ys.length) H):=by
 intro pins s W H xs us Q I r h;obtain⟨p,ys,rfl,z,q⟩:=h;obtain⟨u,rfl,J⟩:=vals1 r;cases J;have Y:=kb;rcases z with z|z
 .obtain⟨its,B,F,U⟩:=I.list z;have c:=B.length;exact Calls.call_len_list F.isList (by simp only[size_toArray]<;>omega) ⟨.int ys.length,H,I.tok _,⟨s.toks+1,by rw[size_toArray,c]⟩,q⟩
 .obtain⟨its,B,F,U⟩:=I.tuple z;have c:=B.length;exact len_tuple F (by simp only[size_toArray]<;>omega) ⟨.int ys.length,H,I.tok _,⟨s.toks+1,by rw[size_toArray,c]⟩,q⟩
theorem mY:eM X (.type "list") (λxs H Q=>∃p ys,xs=[.ref p]/\(dO X.K H p ys∨fP X.K H p ys)/\∀l,H l=none->Q (.ref l) (upd H l<|.lst ys)):=by
 intro pins s W H xs us Q I r h;obtain⟨p,ys,rfl,F,q⟩:=h;obtain⟨u,rfl,Z⟩:=vals1 r;cases Z
 have fin:∀(its:List Value),bn ys its->ys.length<=sizeLine->∀(h':Heap)(c':Nat),(∀b o',s.heap.get? b=some o'->h'.get? b=some o')->
   h'.get? s.heap.objs.size=some {cls:= .type "list",dict:=none,data:= .seq its.toArray c',slots:= #[]}->EP X pins W Q (.ref s.heap.objs.size) {s with heap:=h'}:=λits c B h' c' z e=>
  ⟨.ref s.heap.objs.size,_,I.laid (t':=s.toks) z (aa _) (show bQ X.prog X.w _ h' _ (.lst ys) from⟨B,its,c',c,e⟩),rfl,q _<|I.hok.fresh<|aa _⟩
 rcases F with F|F
 .obtain⟨its,c,U,B⟩:=I.list F;have J:=c.length;obtain⟨o,ho,Y,n,hd⟩:=U.isList;exact call_list_seq p (.inl rfl) ho Y hd (λh' c' z e=>fin its c B h' c' z e) (by simp only[size_toArray]<;>omega)
 .obtain⟨its,c,U,B⟩:=I.tuple F;have J:=c.length;obtain⟨o,ho,Y,n,hd⟩:=U;exact call_list_seq p (.inr rfl) ho Y hd (λh' c' z e=>fin its c B h' c' z e) (by simp only[size_toArray]<;>omega)
theorem gS:eM X (.type "tuple") (λxs H Q=>∃p ys,xs=[.ref p]/\((dO X.K H p ys/\∀l,H l=none->Q (.ref l) (upd H l<|.tup ys))∨(fP X.K H p ys/\Q (.ref p) H))):=by
 intro pins s W H xs us Q I r h;obtain⟨p,ys,rfl,h⟩:=h;obtain⟨u,rfl,U⟩:=vals1 r;cases U;rcases h with⟨hq,q⟩|⟨hq,q⟩
 .obtain⟨its,c,z,B⟩:=I.list hq;have F:=c.length;refine call_tuple_list z.isList (λh' Y=>?_) (by simp only[size_toArray]<;>omega)
  have J:Inv X pins W H {s with heap:=h'}:=I.kept (t':=s.toks) Y
  have Z:Inv X pins W (upd H h'.objs.size<|.tup ys) {s with heap:=h'.push {cls:= .type "tuple",data:= .seq its.toArray}}:=
   J.laid (t':=s.toks) (λb o e=>ah _ e) (aa _) (show bQ X.prog X.w _ _ _ (.tup ys) from⟨B,its,c,nq.new _ _⟩)
  exact⟨.ref h'.objs.size,_,Z,rfl,q _<|J.hok.fresh<|aa _⟩
 .obtain⟨its,c,z,B⟩:=I.tuple hq;exact call_tuple_same z ⟨.ref p,H,I,rfl,q⟩
def Eh(K:aF)(T:String)(x:V)(H:Hp):Prop:=match x with
 | .str _=>T= "str"
 | .int _=>T= "int"
 | .ref p=>(T= "list" /\∃xs,dO K H p xs)∨(T= "tuple" /\∃o,K.lookup p=some o/\o.cls=.type "tuple" /\o.dict=none)∨
   (T= "dict" /\((∃kvs,H p=some (.dK kvs))∨∃kvs,H p=some (.dT kvs)))∨(T= "set" /\∃S n,H p=some (.set S n))
 |_=>False
theorem t8{W:St}{H:Hp}{s:Shared}{T:String}{x:V}{v:Value}(I:Inv X pins W H s)(r:RelV x v)(ty:Eh X.K T x H):
  s.TypeIs v T/\∀a,v=.ref a->∃J,s.heap.get? a=some J/\J.dict=none:=by
 cases x with
 |str z=>obtain⟨t,rfl⟩:=r;cases(show T= "str" from ty);exact⟨typeIs_str s z t,λ_ e=>nomatch e⟩
 |int i=>obtain⟨t,rfl⟩:=r;cases(show T= "int" from ty);exact⟨typeIs_int s i t,λ_ e=>nomatch e⟩
 |ref p=>
  cases r;rcases ty with⟨rfl,xs,hq⟩|⟨rfl,o,hk,hc,hd⟩|⟨rfl,hk⟩|⟨rfl,S,n,hk⟩
  .obtain⟨its,_,F,_⟩:=I.list hq;refine⟨F.isList.typeIs,λa e=>?_⟩;cases e;obtain⟨o,n,e,c,hd,_⟩:=F;exact⟨o,e,hd⟩
  .refine⟨⟨o,I.kIn p o hk,hc⟩,λa e=>?_⟩;cases e;exact⟨o,I.kIn _ o hk,hd⟩
  .have z:∃o,s.heap.get? p=some o/\o.ExactDict:=by
    rcases hk with⟨kvs,hk⟩|⟨kvs,hk⟩
    .obtain⟨_,_,_,_,o,_,_,e,ex,_⟩:=I.hok p _ hk;exact⟨o,e,ex⟩
    .obtain⟨_,_,_,_,o,_,_,e,ex,_⟩:=I.hok p _ hk;exact⟨o,e,ex⟩
   obtain⟨o,e,ex⟩:=z;refine⟨⟨o,e,ex.1⟩,λa B=>?_⟩;cases B;exact⟨o,e,ex.2.1⟩
  .obtain⟨o,_,_,_,e,ex,_⟩:=I.hok p _ hk;refine⟨⟨o,e,ex.1⟩,λa B=>?_⟩;cases B;exact⟨o,e,ex.2.1⟩
 |_=>exact False.elim ty
def Ez(K:aF)(T:String)(r:V->List V->Hp->VK->Prop)(to:TE):TE:=λW H Q=>to W H λx H1=>Eh K T x H1/\r x [] H1 Q
def FS(K:aF)(T:String)(r:V->List V->Hp->VK->Prop)(to:TE)(t:TA):TE:=λW H Q=>to W H λx H1=>Eh K T x H1/\t W H1 λxs H2=>r x xs H2 Q
variable{o e:Expr}{es:List Expr}{to:TE}{t:TA}{name:Str}{apos cpos:Pos}{T id:String}{r:V->List V->Hp->VK->Prop}
theorem AF(pa:PlainAttrs T)(slot:Slot T name id)(z:typeOf (.builtin id)=pure (.type "method_descriptor"))(Y:FJ X id r)(ho:PE X o to)
  (c:attributeBase o name X.env (eval o X.env)=eval o X.env:=by rfl)(hline:(apos.endLine==cpos.line)=true:=by rfl):PE X (.Call (.Attribute o name apos) [] [] cpos) (Ez X.K T r to):=by
 intro pins s W H Q I h;refine wpAny_Call_method0_late c hline<|bZ (ho pins s W H _ I h) λv J U=>?_;obtain⟨x,H1,F,B,ty,q1⟩:=U;obtain⟨h1,h2⟩:=t8 F B ty;exact⟨T,id,pa,slot,z,h1,h2,Calls.callWith_builtin rfl<|PySem.evalArgs_none<|Y pins J W H1 x [] v [] Q F B .nil q1⟩
theorem y_(pa:PlainAttrs T)(slot:Slot T name id)(z:typeOf (.builtin id)=pure (.type "method_descriptor"))(hm:FJ X id r)(ho:PE X o to)(ha:PA X (e::es) t)
  (c:attributeBase o name X.env (eval o X.env)=eval o X.env:=by rfl)
  (hfew:((backTo cpos<|starEach (e::es) X.env).all (λx=> !x.1)&&(backToKw cpos<|keywordEach [] X.env).all (λx=>x.1.isSome)
   &&decide ((e::es).length+([]:List Keyword).length+(if([]:List Keyword).isEmpty then 0 else 1)<30))=true:=by rfl)
  (hline:(apos.endLine==cpos.line)=true:=by rfl)(hs:starEach (e::es) X.env=(false,eval e X.env)::starEach es X.env:=by rfl)(hplain:(backTo cpos<|starEach es X.env).any (·.1)=false:=by rfl):
  PE X (.Call (.Attribute o name apos) (e::es) [] cpos) (FS X.K T r to t):=by
 intro pins s W H Q I h;refine wpAny_Call_method_late c hfew hline rfl<|bZ (ho pins s W H _ I h) λv Y Z=>?_;obtain⟨x,H1,J,B,ty,q1⟩:=Z;obtain⟨h1,h2⟩:=t8 J B ty;refine⟨T,id,pa,slot,z,h1,h2,?_⟩;have F:=ha cpos pins Y W H1 _ J q1;rw[hs] at F ⊢;refine Calls.callWith_builtin (by show(false||(backTo cpos<|starEach es X.env).any (·.1))=false;rw[hplain]<;>rfl)<|Calls.evalArgs_plain ?_
 exact bZ F λus U ⟨vs,H2,I2,r2,q2⟩=>hm pins U W H2 x vs v us Q I2 B r2 q2
end
def Fp(X:Cx)(id:String)(r:V->List V->Hp->VK->Prop):Prop:=
 ∀(pins:List (Addr×Obj))(s:Shared)(W:St)(H:Hp)(x:V)(xs:List V) (v:Value) (us:List Value)(Q:VK),Inv X pins W H s->RelV x v->bn xs us->r x xs H Q->
  wpAny (model X.prog X.w) X.A (call (.builtin id)<|v::us) (EP X pins W Q) X.xe s
theorem bn.one:∀{x:V}{us:List Value},bn [x] us->∃u,us=[u]/\RelV x u
 |_,_,.cons r .nil=>⟨_,rfl,r⟩
theorem bn.zero:∀{us:List Value},bn [] us->us=[]
 |_,.nil=>rfl
theorem bn.dropLast{xs:List V}{us:List Value}(h:bn xs us):bn xs.dropLast us.dropLast:=by
 induction h with
 |nil=>exact .nil
 |cons r t ih=>
  cases t with
  |nil=>exact .nil
  |cons q t'=>exact .cons r ih
theorem bn.eraseIdx:∀{xs:List V}{us:List Value}(i:Nat),bn xs us->bn (xs.eraseIdx i) (us.eraseIdx i)
 |_,_,_,.nil=>.nil
 |_,_,0,.cons _ t=>t
 |_,_,i+1,.cons r t=>.cons r<|bn.eraseIdx i t
theorem p6{α:Type}(l:List α):l.eraseIdx (l.length - 1)=l.dropLast:=by
 induction l with
 |nil=>rfl
 |cons a r ih=>
  cases r with
  |nil=>rfl
  |cons b r=>
   have e:(a::b::r).length - 1=((b::r).length - 1)+1:=by have h1:(a::b::r).length=r.length+2:=rfl;have h2:(b::r).length=r.length+1:=rfl;omega
   rw[e,List.eraseIdx_cons_succ,ih]
   all_goals rfl
theorem lH{α:Type}:∀(l:List α)(i:Nat),(l.eraseIdx i).length<=l.length
 |[],_=>aa _
 |_::_,0=>le_succ _
 |_::r,i+1=>Nat.succ_le_succ<|lH r i
section
variable{X:Cx}{pins:List (Addr×Obj)}{W:St}{H:Hp}{s:Shared}{l:Addr}{xs ys:List V}
theorem Inv.lset{f:Array Value->Array Value}(I:Inv X pins W H s)(U:H l=some (.lst xs))
  (e:s.heap.get? l=some {cls:= .type "list",data:= .seq its.toArray n}) (F:f its.toArray=its'.toArray)(z:bn ys its')(c:ys.length<=sizeLine):
  Inv X pins W (upd H l<|.lst ys) {s with heap:=s.heap.update l (Obj.mapSeq f),toks:=t'}:=by
 have q:=PySem.IsL.update e f;rw[F] at q;refine I.write (x:=l) (e:=l) (by rw[U];exact trivial) (.inl rfl) (λb' u J B=>(Heap.get?_update_other s.heap (Obj.mapSeq f)<|Ne.symm J).trans B) ⟨_,q⟩ ?_
 exact⟨c,its',_,z,q⟩
theorem Inv.lnew(I:Inv X pins W H s)(z:bn ys its)(c:ys.length<=sizeLine):
  Inv X pins W (upd H s.heap.objs.size<|.lst ys) {s with heap:=s.heap.push {cls:= .type "list",data:= .seq its.toArray},toks:=t'}:=
 I.laid (λ_ _ q=>ah _ q) (aa _) ⟨c,its,0,z,aC _ rfl⟩
theorem Inv.fresh(I:Inv X pins W H s):H s.heap.objs.size=none:=I.hok.fresh<|aa _
theorem Inv.lstM(I:Inv X pins W H s)(c:H l=some (.lst xs)):xs.length<=sizeLine/\∃(its:List Value)(n:Nat),bn xs its/\xs.length=its.length/\s.heap.get? l=some {cls:= .type "list",data:= .seq its.toArray n}:=by obtain⟨z,its,n,r,e⟩:=I.hok l _ c;exact⟨z,its,n,r,r.length,e⟩
end
section
variable{X:Cx}
def xF:V->List V->Hp->VK->Prop:=λx vs H Q=>∃l xs y,x=.ref l/\vs=[y]/\H l=some (.lst xs)/\xs.length<sizeLine/\Q .non (upd H l<|.lst<|xs++[y])
theorem lE:Fp X "list.append" xF:=by
 intro pins s W H x vs v us Q I B rv h;obtain⟨l,xs,y,rfl,rfl,c,U,q⟩:=h;cases B;obtain⟨u,rfl,J⟩:=rv.one;obtain⟨z,its,n,r,Y,e⟩:=I.lstM c;refine call_meets F.slot_list_append ⟨_,e,rfl⟩ F.entry_list_append (F.args_list_append_2 _ _) (PySem.list_append l its.toArray n u (by rw[size_toArray];omega)) ⟨e,?_⟩
 refine⟨.non,_,I.lset (its':=its++[u]) c e (by simp) (r.append<|.cons J .nil) ?_,rfl,q⟩
 rw[aE,length_singleton];omega
def EK:V->List V->Hp->VK->Prop:=λx vs H Q=>∃l xs y,x=.ref l/\vs=[]/\H l=some (.lst xs)/\xs[xs.length - 1]? =some y/\Q y (upd H l<|.lst xs.dropLast)
theorem AR:Fp X "list.pop" EK:=by
 intro pins s W H x vs v us Q I U rv h;obtain⟨l,xs,y,rfl,rfl,J,Z,q⟩:=h;cases U;have B:=rv.zero;subst B;obtain⟨z,its,n,r,hl,e⟩:=I.lstM J;obtain⟨u,hu,Y⟩:=r.get Z
 have c:its.toArray[its.toArray.size - 1]? =some u:=by show its.toArray[its.length - 1]? =some u;rw[<-Array.getElem?_toList,<-hl];exact hu
 refine call_meets F.slot_list_pop ⟨_,e,rfl⟩ F.entry_list_pop (F.args_list_pop_1 _) (MeetsSeq.list_pop_last l its.toArray n u c (by rw[size_toArray];omega)) ⟨e,?_⟩
 refine⟨y,_,I.lset (its':=its.dropLast) J e ?_ r.dropLast ?_,Y,q⟩
 .show its.toArray.eraseIdxIfInBounds (its.toArray.size - 1)=its.dropLast.toArray;rw[size_toArray,List.eraseIdxIfInBounds_toArray,p6]
 .rw[length_dropLast];omega
def Am:V->List V->Hp->VK->Prop:=λx vs H Q=>∃l xs i k y,x=.ref l/\vs=[.int i]/\H l=some (.lst xs)/\ -(2^63)<=i/\i<2^63/\seqIndex? i xs.length=some k/\xs[k]? =some y/\Q y (upd H l<|.lst<|xs.eraseIdx k)
theorem vv:Fp X "list.pop" Am:=by
 intro pins s W H x vs v us Q I J rv h;obtain⟨l,xs,i,k,y,rfl,rfl,B,h1,h2,hk,Y,q⟩:=h;cases J;obtain⟨u,rfl,U⟩:=rv.one;obtain⟨t,rfl⟩:=U;obtain⟨z,its,n,r,Z,e⟩:=I.lstM B;obtain⟨w,hw,c⟩:=r.get Y
 refine call_meets F.slot_list_pop ⟨_,e,rfl⟩ F.entry_list_pop (F.args_list_pop_2 _ _)
  (MeetsSeq.list_pop_at l its.toArray n i t k w (fitsIndex_both h1 h2) (by rw[size_toArray,<-Z];exact hk) (by rw[<-Array.getElem?_toList];exact hw) (by rw[size_toArray];omega)) ⟨e,?_⟩
 refine⟨y,_,I.lset (its':=its.eraseIdx k) B e ?_ (r.eraseIdx k) ?_,c,q⟩
 .show its.toArray.eraseIdxIfInBounds k=(its.eraseIdx k).toArray;rw[List.eraseIdxIfInBounds_toArray]
 .have:=lH xs k;omega
def EO:R2:=λx y H Q=>∃l b xs zs,x=.ref l/\y=.ref b/\H l=some (.lst xs)/\H b=some (.lst zs)/\xs.length+zs.length<=sizeLine/\∀p,H p=none->Q (.ref p) (upd H p<|.lst<|xs++zs)
theorem AK:oY X (binaryOp .Add) EO:=by
 intro pins s W H x y v u Q I B c h;obtain⟨l,b,xs,zs,rfl,rfl,U,Y,hz,q⟩:=h;cases B;cases c;obtain⟨z,its,n,r,hl,e⟩:=I.lstM U;obtain⟨z2,its2,n2,F,J,e2⟩:=I.lstM Y;refine PySem.P.add_list e e2 ?_ (by rw[size_toArray,size_toArray];omega)
 have Z:its.toArray++its2.toArray=(its++its2).toArray:=by simp
 rw[Z];exact⟨.ref _,_,I.lnew (t':=s.toks) (r.append F) (by rw[aE];omega),rfl,q _ I.fresh⟩
end
section
end
section
end
end L2
namespace Att
open PySem PySem.W PySem.Calls PyProof.Rows
theorem ju{P:Params}{h:Heap}:∀(ns:List Int)(vs:List Value),WellAll P h vs (ns.map WData.int)->IntsAre vs ns:=by
 intro ns
 induction ns with
 |nil=>intro vs w;rw[map_nil] at w;cases w;exact .nil
 |cons n ns ih=>
  intro vs w;rw[map_cons] at w;cases w with
  |cons a b=>cases a;exact .cons _ _<|ih _ b
theorem sg{l:OpenLaw}{n:Nat}(Y:l.most=some n){P:Params}{h:Heap}{args:List WData}{vals:List Value}
  (c:l.row.toRowW.claim.pre args=true)(H:WellAll P h vals args):
  ∃a vs ns,vals=[Value.ref a]/\args=[WData.list<|ns.map WData.int]/\h.get? a=some {cls:= .type "list",data:= .seq vs.toArray}/\IntsAre vs ns/\ns.length<=n:=by
 have I:WShape.hasAll [] args [.list .int]=true:=(pre_splitW c).1;have J:l.pre.holds [] {args:=args}=true:=(pre_splitW c).2;obtain⟨d,r,rfl,h1,h2⟩:=hasAllW_cons I;obtain rfl:=hasAllW_nil h2;obtain⟨xs,rfl,Z⟩:=hasW_list h1;obtain⟨ns,rfl⟩:=items_int Z
 have z:ns.length<=n:=by
  unfold OpenLaw.pre at J
  have F:(WTm.not<|.lt (.lit<|.int (n:Int))<|.len<|.arg 0).holds [] {args:=[.list<|ns.map .int]}=true:=by have F:=(holds_andW J).1;rw[Y] at F;exact F
  have B:=condW_of F (w_not<|w_lt w_lit<|w_len_list<|w_arg rfl);rw[length_map] at B;refine Nat.le_of_not_lt λq=>?_;have U:(n:Int)<((ns.length:Nat):Int):=by omega
  first
   |(rw[decide_eq_true U] at B;exact absurd B (by decide))
   |(simp at B;omega)
 cases H with
 |cons w1 w2=>
  cases w2;cases w1 with
  |list ho hall=>exact⟨_,_,ns,rfl,rfl,ho,ju ns _ hall,z⟩
theorem sv(l:OpenLaw)(args:List WData):l.row.toRowW.claim.post args (.bool true) args=true:=
 postW_of (r:=l.row.toRowW) (X:=(true==true))
  (show WShape.has [] (.bool true) .bool=true by first|rfl|decide|simp[WShape.has,WShape.arms,WShape.armsAll])
  (show(WTm.eq .res<|.lit<|.bool true).value [] {args:=args,res:=some (.bool true),after:=args}=some (.bool<|true==true) from w_eq_bool (w_res rfl) w_lit) rfl
theorem oV{l:OpenLaw}{n:Nat}{q:Program}{loose:List Str}{XP:(Str->Option Value)->Heap->Prop}{YP:World->Heap->Prop}{d:DefRec}
  (hn:l.most=some n)(hdf:d.params.defaults=[])
  (call:∀(w:World)(s₀ s₁:Shared)(mg U:Str->Option Value)(I:Addr)(o:Obj)(pm J z:Value)(a:Addr)(vs:List Value) (ns:List Int),
   Ground q loose [] XP w s₀ mg U s₁.heap->YP w s₁.heap->
   s₁.heap.get? I=some o->o.data=.func (docDef d.name d.params d.body d.scope pm J z)->s₁.heap.CodeRec J d.name->mg d.name=some (.ref I)->
   s₁.heap.get? a=some {cls:= .type "list",data:= .seq vs.toArray}->IntsAre vs ns->ns.length<=n->s₁.gens= #[]->
   codeAny (model l.prog w) callerA (.call (.ref I) ⟨[.ref a],[]⟩) (λr s'=>r=.ok (.ret<|.bool true)/\OldK s₁.heap s'.heap/\s'.os=s₁.os/\AllBare s'.gens) s₁):
  WalkO q loose XP YP l.row.toRowW d [] (λf vs=>PySem.call f vs):=by
 intro w s₀ s₁ mg U G Y I o pm J z dV kV ho hd hcd hD hmg hg args vals as B hlay hrd Z hlo;obtain rfl:dV=.none:=Dflts.none hD hdf;obtain rfl:kV=.none:=Dflts.noKw hD;obtain⟨a,vs,ns,rfl,rfl,F,c,H⟩:=sg hn B Z;refine enter_call<|codeAny_mono (call w s₀ s₁ mg U I o pm J z a vs ns G Y ho (fd_plain hd) hcd hmg F c H hg) λr s' hq=>?_;obtain⟨rfl,h2,h3,h4⟩:=hq;exact⟨.inl ⟨.bool true,.bool true,[],rfl,λ_=>rfl,.bool true,sv l _,λ_=>⟨Pairwise.nil,λ_ hm=>(nomatch hm)⟩⟩,h2,h3,h4⟩
section
end
end Att
namespace L2
open PySem PySem.Spec PyProof.Rows
variable{qual x:Str}{a f:Addr}{w:World}{P:Program}{u:Value}{y:V}{xs:List (List Key×Addr×Value)}{kvs:List (List Key×V)}{H H':Hp}{Q:Value->Shared->Prop}{X:Cx}
theorem iT:∀{vs:List Value}{ns:List Int},IntsAre vs ns->bn (ns.map V.int) vs
 |_,_,.nil=>.nil
 |_,_,.cons n t h=>.cons ⟨t,rfl⟩<|iT h
def yV(H:Hp):Prop:=∀b,H b=none∨∃o xs,H b=some (.frz o<|.lst xs)
theorem vB{K:aF}{mg mb:Str->Option Value}{CX:wP}{k:Nat}{fa:Addr}{fd:FuncData}{sp:Sp}{s₁:Shared}{vs:List Value}{ns:List Int}
  (KX:K.In s₁.heap)(Z:s₁.heap.Ns mainGlobals mg)(c:s₁.heap.Ns builtinsNs mb)(hbb:∀x:Str,x≠ "__name__" ->mb x=bootBuiltins x) (hlim:s₁.heap.NoLimit)(hg:s₁.gens= #[])
  (ha:s₁.heap.get? a=some {cls:= .type "list",data:= .seq vs.toArray}) (hi:IntsAre vs ns)(hl:ns.length<=sizeLine)(hr:Room k callerA)
  (F:∀base:Heap,K.In base->base.Ns mainGlobals mg->FnOk P w K mg base CX k fa fd [x] sp)(I:∀(s:Shared)(u:Value),BindsTo s fd ⟨[u],[]⟩ [(x,u)])
  (hsp:∀H:Hp,yV H->dO K H a (ns.map V.int)->sp [.ref a] H (λv _=>v=.bl true) λ_ _ _=>False)
  (hCX:∀H e s',CX [] H s₁ (λ_ _ _=>False) e s'->False):
  codeAny (model P w) callerA (.call (.ref fa) ⟨[.ref a],[]⟩) (λr s'=>r=.ok (.ret<|.bool true)/\OldK s₁.heap s'.heap/\s'.os=s₁.os/\AllBare s'.gens) s₁:=by
 have rv:=iT hi;have lenV:=hi.length
 have core:∀H:Hp,yV H->dO K H a (ns.map V.int)->ij P w H s₁.heap->(∀b,H b≠none->b=a)->(H a≠none->K.lookup a=none)->
   codeAny (model P w) callerA (.call (.ref fa) ⟨[.ref a],[]⟩) (λr s'=>r=.ok (.ret<|.bool true)/\OldK s₁.heap s'.heap/\s'.os=s₁.os/\AllBare s'.gens) s₁:=by
  intro H hO hS Y hA hK;have base_of:∀{b:Addr}{o:Obj},s₁.heap.get? b=some o->H b=none->(mO s₁.heap H).get? b=some o:=λe n=>vM e n
  have noA:∀{b:Addr}{o:Obj}{es:Array DictEntry}{ep:Nat},s₁.heap.get? b=some o->o.data=.dict es ep->H b=none:=λ{b o es ep} e d=>by
   cases q:H b with
   |none=>rfl
   |some u=>
    have e':b=a:=hA b (by rw[q];simp)
    subst e';rw[ha] at e;cases e;have d':Data.seq vs.toArray _=Data.dict es ep:=d;cases d'
  have B:∀{b:Addr}{m:Str->Option Value},s₁.heap.Ns b m->(mO s₁.heap H).Ns b m:=λ{b m} ⟨o,es,ep,e,d,r⟩=>⟨o,es,ep,base_of e<|noA e d,d,r⟩
  have hKb:K.In (mO s₁.heap H):=λb o e=>base_of (KX b o e) (by
   cases q:H b with
   |none=>rfl
   |some u=>
    have e':b=a:=hA b (by rw[q];simp)
    subst e';rw[hK (by rw[q];simp)] at e;cases e)
  have hM:Mod K mg (mO s₁.heap H):=⟨hKb,B Z,⟨mb,B c,hbb⟩,let⟨mc,h1,h2⟩:=hlim;⟨mc,B h1,h2⟩⟩;have e0:Env0 P w K mg (mO s₁.heap H) callerA [] s₁ H:=⟨rfl,hM,λb o e=>xY e,Nat.le_of_eq<|sU _ _,trivial,λb c=>absurd (show b∈([]:List Addr) from c) (by simp),Y,.of_eq hg⟩
  refine codeAny_mono ((F _ hKb<|B Z).run callerA [] s₁ H ⟨[.ref a],[]⟩ [.ref a] [.ref a] _ _ hr e0 (I s₁<|.ref a) (.cons rfl .nil)<|hsp H hO hS) λr s' h=>?_;cases r with
  |error e=>exact(hCX H e s' h).elim
  |ok fl=>
   cases fl with
   |ret u=>
    obtain⟨v,H',os,bare,un,U,r',q⟩:=h;have q':v=.bl true:=q;subst q';obtain rfl:u=Value.bool true:=r';refine⟨rfl,OldK.of_keep λb o e=>?_,os,bare⟩;cases q:H b with
    |none=>exact un.keep b o e q (by intro z;exact absurd (show b∈([]:List Addr) from z) (by simp)) (by simp)
    |some u=>
     rcases hO b with z|⟨ob,xs,z⟩
     .rw[q] at z;cases z
     .have z2:=un.frzs b ob _ z;obtain⟨e1,_⟩:=Y b _ z;obtain⟨e2,_⟩:=U b _ z2;rw[e] at e1;cases e1;exact e2
   |_=>exact False.elim h
 cases hk:K.lookup a with
 |some o=>
  have e:=KX a o hk;rw[ha] at e;cases e;refine core (λ_=>none) (λ_=>.inl rfl) (.inr ⟨_,vs.toArray,_,hk,rfl,rfl,rfl,by rw[size_toArray,lenV];exact hl,by simpa using rv⟩) (λb u z=>by have J:(none:Option HO)=some u:=z;cases J) (λb z=>absurd rfl z) λz=>absurd rfl z
 |none=>
  refine core (λb=>if b=a then some (.frz {cls:= .type "list",data:= .seq vs.toArray}<|.lst<|ns.map V.int) else none) (λb=>?_) (.inl<|.inr ⟨{cls:= .type "list",data:= .seq vs.toArray},if_pos rfl⟩) (λb u z=>?_) (λb z=>?_) λ_=>hk
  .by_cases c:b=a
   .exact .inr ⟨_,_,if_pos c⟩
   .exact .inl<|if_neg c
  .by_cases c:b=a
   .have J:=(if_pos c).symm.trans z;cases J;subst c;exact⟨ha,by rw[length_map];exact hl,vs,_,rv,ha⟩
   .have J:=(if_neg c).symm.trans z;cases J
  .by_cases c:b=a
   .exact c
   .exact absurd (if_neg c) z
theorem wV{l:PySem.W.OpenLaw}{n k:Nat}{q:Program}{loose:List Str}{XP:(Str->Option Value)->Heap->Prop}{YP:World->Heap->Prop}{d:DefRec}{K:Params->aF}{CX:World->wP}{sp:World->Sp}
  (hn:l.most=some n)(U:n<=sizeLine)(hdf:d.params.defaults=[])(hr:Room k callerA)
  (hY:∀(w:World)(h:Heap),YP w h->(K w.params).In h)
  (F:∀(w:World)(mg:Str->Option Value)(I:Addr)(h:Heap),(K w.params).In h->h.Ns mainGlobals mg->mg d.name=some (.ref I)->
   ∃fd:FuncData,(∀(s:Shared)(u:Value),BindsTo s fd ⟨[u],[]⟩ [(x,u)])/\
    ∀base:Heap,(K w.params).In base->base.Ns mainGlobals mg->FnOk l.prog w (K w.params) mg base (CX w) k I fd [x] (sp w))
  (J:∀(w:World)(H:Hp)(a:Addr)(ns:List Int),ns.length<=n->yV H->dO (K w.params) H a (ns.map V.int)->sp w [.ref a] H (λv _=>v=.bl true) λ_ _ _=>False)
  (hCX:∀(w:World)(H:Hp)(s:Shared)(e:Value)(s':Shared),CX w [] H s (λ_ _ _=>False) e s'->False):
  PySem.W.WalkO q loose XP YP l.row.toRowW d [] (λf vs=>PySem.call f vs):=by
 refine Att.oV hn hdf λw s₀ s₁ mg mb I o pm cd doc a vs ns G Y ho hd hcd Z B z c hg=>?_;have KX:=hY w _ Y;obtain⟨fd,hb,hF⟩:=F w mg I _ KX G.T.g Z;exact vB KX G.T.g G.T.b G.T.builtins G.T.nolimit hg B z (aM c U) hr hF hb (λH hO hS=>J w H a ns c hO hS) λH e s'=>hCX w H s₁ e s'
noncomputable def eK(s:Stmt):Arguments:=match s with
 | .FunctionDef _ a _ _ _ _ _ _ _ _=>a
 |_=>{posonlyargs:=[],args:=[],vararg:=none,kwonlyargs:=[],kw_defaults:=[],kwarg:=none,defaults:=[]}
noncomputable def dA(s:Stmt):List Stmt:=match s with
 | .FunctionDef _ _ b _ _ _ _ _ _ _=>b
 |_=>[]
noncomputable def bY(s:Stmt):Scope:=match s with
 | .FunctionDef _ _ _ _ _ _ sc _ _ _=>sc
 |_=>{kind:= .function,names:=[],isGenerator:=false,isCoroutine:=false}
abbrev E0:XK:=λ_ _ _=>False
structure Fun(K:aF)(x qual:Str)(st:Stmt)(f:Addr)(fd:FuncData):Prop where
 ex:∃(oc:Value)(od:Option Addr)(kV doc pm:Value)(an:Option Addr)(cdv ct:Value)(osl:Array (Option Value)),
  fd=PySem.W.fnOf x qual (eK st) (dA st) (bY st) .none kV doc pm an cdv ct/\K.lookup f=some ⟨oc,od,.func fd,osl⟩/\PySem.W.codeIn K cdv qual=true
 kp:PySem.W.keepIn K (.ref f)=true
section
variable{K:aF}
theorem Fun.binds{st:Stmt}{fd:FuncData}{ps:List Str}(F:Fun K x qual st f fd)
  (h:∀(kV c pm:Value)(B:Option Addr)(z ct:Value)(us:List Value),us.length=ps.length->bindArgs (PySem.W.fnOf x qual (eK st) (dA st) (bY st) .none kV c pm B z ct) ⟨us,[]⟩=pure (ps.zip us)):Binds K fd ps []:=by
 obtain⟨U,J,kV,c,pm,B,z,ct,H,rfl,lk,I⟩:=F.ex;exact .all<|h kV c pm B z ct
theorem Bd{st:Stmt}{J:Value}{I H:Option Addr}{F:Array (Option Value)}{kV B pm z ct:Value}(l:K.lookup f=some ⟨J,I,.func<|PySem.W.fnOf x qual (eK st) (dA st) (bY st) .none kV B pm H z ct,F⟩)
  (c:PySem.W.codeIn K z qual=true)(k:PySem.W.keepIn K (.ref f)=true):Fun K x qual st f (PySem.W.fnOf x qual (eK st) (dA st) (bY st) .none kV B pm H z ct):=⟨⟨J,I,kV,B,pm,H,z,ct,F,rfl,l,c⟩,k⟩
end
section
end
set_option maxHeartbeats 4000000
set_option linter.unusedVariables false
section
variable{κ:Type}[DecidableEq κ]
noncomputable def eZ(kvs:List (κ×V))(k:κ):Option V:=(kvs.find? λkv=>decide<|kv.1=k).map (·.2)
noncomputable def putK(kvs:List (κ×V))(k:κ)(v:V):List (κ×V):=
 if(kvs.any λkv=>decide<|kv.1=k)=true then kvs.map (λkv=>if kv.1=k then(kv.1,v) else kv) else kvs++[(k,v)]
theorem tZ{k:κ}:eZ ([]:List (κ×V)) k=none:=rfl
theorem fS{p:κ×V}{r:List (κ×V)}{k:κ}(e:p.1=k):eZ (p::r) k=some p.2:=by simp[eZ,List.find?_cons,e]
theorem dU{p:κ×V}{r:List (κ×V)}{k:κ}(e:¬p.1=k):eZ (p::r) k=eZ r k:=by simp[eZ,List.find?_cons,e]
theorem jR(k:κ):∀kvs:List (κ×V),(kvs.any λkv=>decide<|kv.1=k)=(eZ kvs k).isSome
 |[]=>rfl
 |p::r=>by
  rw[any_cons];by_cases e:p.1=k
  .simp only[fS e,decide_eq_true e,Bool.true_or,isSome_some]
  .rw[dU e,decide_eq_false e,Bool.false_or];exact jR k r
theorem eI(kvs:List (κ×V))(k:κ)(v:V):(putK kvs k v).length<=kvs.length+1:=by
 unfold putK;split
 .rw[length_map];omega
 .rw[aE,length_cons,length_nil];omega
theorem uU{kvs:List (κ×V)}{k:κ}(v:V)(h:eZ kvs k=none):putK kvs k v=kvs++[(k,v)]:=by
 unfold putK;rw[jR,h];exact if_neg (by decide)
theorem fQ.isSome_eq{o:Option V}{u:Option Value}(r:fQ o u):o.isSome=u.isSome:=by
 cases o with
 |none=>cases u with
  |none=>rfl
  |some _=>exact(show False from r).elim
 |some _=>cases u with
  |none=>exact(show False from r).elim
  |some _=>rfl
theorem fQ.getD{o:Option V}{u:Option Value}{d:V}{d':Value}(r:fQ o u)(c:RelV d d'):RelV (o.getD d) (u.getD d'):=by
 cases o with
 |none=>cases u with
  |none=>exact c
  |some _=>exact(show False from r).elim
 |some _=>cases u with
  |none=>exact(show False from r).elim
  |some _=>exact r
theorem KV.val{kvs:List (κ×V)}{vs:List (κ×Value)}(r:KV kvs vs)(k:κ):fQ (eZ kvs k) (valueAt vs k):=by
 unfold KV at r
 induction r with
 |nil=>exact True.intro
 | @cons p q ps qs h t ih=>
  obtain⟨h1,h2⟩:=h;by_cases e:p.1=k
  .have e':q.1=k:=h1.symm.trans e;have b:valueAt (q::qs) k=some q.2:=by simp[valueAt,List.find?_cons,e']
   rw[fS e,b];exact h2
  .have e':¬q.1=k:=λz=>e<|h1.trans z;have b:valueAt (q::qs) k=valueAt qs k:=by simp[valueAt,List.find?_cons,e']
   rw[dU e,b];exact ih
theorem KV.any{kvs:List (κ×V)}{vs:List (κ×Value)}(r:KV kvs vs)(k:κ):(kvs.any λkv=>decide<|kv.1=k)=vs.any λkv=>decide (kv.1=k):=by
 unfold KV at r
 induction r with
 |nil=>rfl
 |cons h t ih=>rw[any_cons,any_cons,ih,h.1]
theorem KV.repl{kvs:List (κ×V)}{vs:List (κ×Value)}(r:KV kvs vs)(k:κ)(c:RelV y u):
  KV (kvs.map λkv=>if kv.1=k then(kv.1,y) else kv) (vs.map λkv=>if kv.1=k then(kv.1,u) else kv):=by
 unfold KV at r ⊢
 induction r with
 |nil=>exact .nil
 | @cons p q ps qs h t ih=>
  rw[map_cons,map_cons];refine .cons ?_ ih;obtain⟨h1,h2⟩:=h;by_cases e:p.1=k
  .rw[if_pos e,if_pos<|h1.symm.trans e];exact⟨h1,c⟩
  .rw[if_neg e,if_neg<|λz=>e<|h1.trans z];exact⟨h1,h2⟩
theorem KV.put{kvs:List (κ×V)}{vs:List (κ×Value)}(r:KV kvs vs)(k:κ)(c:RelV y u):KV (putK kvs k y) (stored vs k u):=by
 unfold putK stored;rw[r.any k];by_cases e:(vs.any λkv=>decide<|kv.1=k)=true
 .rw[if_pos e,if_pos e];exact r.repl k c
 .rw[if_neg e,if_neg e];exact Paired.snoc r ⟨rfl,c⟩
theorem KV.keys{kvs:List (κ×V)}{vs:List (κ×Value)}(r:KV kvs vs):kvs.map (·.1)=vs.map (·.1):=by
 unfold KV at r
 induction r with
 |nil=>rfl
 |cons h t ih=>rw[map_cons,map_cons,ih,h.1]
theorem KV.length{kvs:List (κ×V)}{vs:List (κ×Value)}(r:KV kvs vs):kvs.length=vs.length:=Paired.length r
end
theorem iF{k:Key}(r:RelV (kV k) u):(bF P w).is k u=true:=by
 cases k with
 |inl i=>obtain⟨t,e⟩:=(show ∃t,u=Value.int i t from r);subst e;exact n_ P w i t
 |inr x=>obtain⟨t,e⟩:=(show ∃t,u=Value.str x t from r);subst e;exact n8 P w x t
theorem lJ{P:Program}{w:World}:∀{ks:List Key}{us:List Value},bn (ks.map kV) us->ItemsAre (bF P w) ks us
 |[],_,r=>by rw[map_nil] at r;cases r;exact .nil
 |k::ks,_,r=>by
  rw[map_cons] at r;cases r with
  |cons h t=>exact .cons (iF h)<|lJ t
abbrev KT(H:Hp):List (List Key×V)->List (List Key×Addr×Value)->Prop:=Paired λp q=>p.1=q.1/\H q.2.1=some (.tup<|p.1.map kV)/\RelV p.2 q.2.2
theorem KT.val(r:KT H kvs xs)(k:List Key):fQ (eZ kvs k) ((atKey xs k).map (·.2)):=by
 induction r with
 |nil=>exact True.intro
 | @cons p q ps qs h t ih=>
  obtain⟨h1,_,h2⟩:=h;by_cases e:p.1=k
  .have e':q.1=k:=h1.symm.trans e;have b:atKey (q::qs) k=some q.2:=by simp[atKey,List.find?_cons,e']
   rw[fS e,b];exact h2
  .have e':¬q.1=k:=λz=>e<|h1.trans z;have b:atKey (q::qs) k=atKey qs k:=by simp[atKey,List.find?_cons,e']
   rw[dU e,b];exact ih
theorem KT.repl(r:KT H kvs xs)(k:List Key)(c:RelV y u):
  KT H (kvs.map λkv=>if kv.1=k then(kv.1,y) else kv) (xs.map<|putAt k u):=by
 induction r with
 |nil=>exact .nil
 | @cons p q ps qs h t ih=>
  rw[map_cons,map_cons];refine .cons ?_ ih;obtain⟨h1,h2,B⟩:=h;unfold putAt;by_cases e:p.1=k
  .rw[if_pos e,if_pos<|h1.symm.trans e];exact⟨h1,h2,c⟩
  .rw[if_neg e,if_neg<|λz=>e<|h1.trans z];exact⟨h1,h2,B⟩
theorem KT.put(r:KT H kvs xs)(k:List Key){b:Addr}(z:H b=some (.tup<|k.map kV))(c:RelV y u):
  KT H (putK kvs k y) (storedH xs k b u):=by
 have e:(kvs.any λkv=>decide<|kv.1=k)=(atKey xs k).isSome:=by rw[jR,(r.val k).isSome_eq,isSome_map]
 unfold putK storedH;rw[e];by_cases q:(atKey xs k).isSome=true
 .rw[if_pos q,if_pos q];exact r.repl k c
 .rw[if_neg q,if_neg q];exact Paired.snoc r ⟨rfl,z,c⟩
theorem KT.keeps(r:KT H kvs xs)(ht:∀b ys,H b=some (.tup ys)->H' b=some (.tup ys)):KT H' kvs xs:=
 Paired.mapP r λ_ _ z=>⟨z.1,ht _ _ z.2.1,z.2.2⟩
section
variable{P:Program}{w:World}{H:Hp}{h:Heap}{a:Addr}
theorem y7{u:HO}(ok:ij P w H h)(e:Rd H a u):bQ P w H h a u:=e.ok ok
theorem gQ{kvs:List (Key×V)}(ok:ij P w H h)(e:Rd H a (.dK kvs)):kvs.length<=sizeLine/\(a==sysModules)=false/\∃vs,KV kvs vs/\h.DictOf (bF P w) a vs:=
 show bQ P w H h a (.dK kvs) from y7 ok e
theorem oN{kvs:List (Key×V)}(ok:ij P w H h)(e:H a=some (.dK kvs)):kvs.length<=sizeLine/\(a==sysModules)=false/\∃vs,KV kvs vs/\h.DictOf (bF P w) a vs:=gQ ok<|.inl e
theorem hZ{ks:List Key}(ok:ij P w H h)(e:H a=some (.tup<|ks.map kV)):(tupleKind<|bF P w).is h ks a:=by
 obtain⟨_,its,r,o,h1,h2,n,c⟩:=(show bQ P w H h a (.tup<|ks.map kV) from ok a _ e);exact⟨o,its.toArray,n,h1,h2.1,c,by simpa using lJ r⟩
theorem jq(ok:ij P w H h)(e:Rd H a (.dT kvs)):kvs.length<=sizeLine/\(a==sysModules)=false/\
  ∃xs,KT H kvs xs/\h.DictOfH (tupleKind<|bF P w) a xs:=by
 obtain⟨z,y,xs,r,o,es,ep,h1,h2,I,F,B⟩:=(show bQ P w H h a (.dT kvs) from y7 ok e);refine⟨z,y,xs,r,o,es,ep,h1,h2,I,F,λx c=>?_,B⟩
 have all:∀{l:List (List Key×V)}{m:List (List Key×Addr×Value)},KT H l m->∀x∈m,(tupleKind<|bF P w).is h x.1 x.2.1:=by
  intro l m q
  induction q with
  |nil=>intro x c;exact nomatch c
  | @cons p q ps qs hq t ih=>
   intro x c;rcases mem_cons.mp c with e|c
   .subst e;exact hZ ok (by rw[<-hq.1];exact hq.2.1)
   .exact ih x c
 exact all r x c
theorem DD(ok:ij P w H h)(e:H a=some (.dT kvs)):kvs.length<=sizeLine/\(a==sysModules)=false/\
  ∃xs,KT H kvs xs/\h.DictOfH (tupleKind<|bF P w) a xs:=jq ok<|.inl e
end
def gM(H:Hp)(a:Addr)(y:V)(r:Option V):Prop:=
 (∃kvs k,Rd H a (.dK kvs)/\y=kV k/\r=eZ kvs k)∨∃kvs k b,Rd H a (.dT kvs)/\y=.ref b/\H b=some (.tup<|k.map kV)/\r=eZ kvs k
def wO(H:Hp)(a:Addr)(y v:V)(H':Hp):Prop:=
 (∃kvs k,H a=some (.dK kvs)/\y=kV k/\kvs.length<sizeLine/\H'=upd H a (.dK<|putK kvs k v))∨
 ∃kvs k b,H a=some (.dT kvs)/\y=.ref b/\H b=some (.tup<|k.map kV)/\kvs.length<sizeLine/\H'=upd H a (.dT<|putK kvs k v)
theorem gM.k{H:Hp}{a:Addr}{kvs:List (Key×V)}{k:Key}(e:H a=some (.dK kvs)):gM H a (kV k) (eZ kvs k):= .inl ⟨kvs,k,.inl e,rfl,rfl⟩
theorem wO.k{H:Hp}{a:Addr}{kvs:List (Key×V)}{k:Key}{v:V}(e:H a=some (.dK kvs))(c:kvs.length<sizeLine):wO H a (kV k) v (upd H a<|.dK<|putK kvs k v):= .inl ⟨kvs,k,e,rfl,c,rfl⟩
section
variable{X:Cx}{pins:List (Addr×Obj)}{W:St}{H:Hp}{s:Shared}{a:Addr}{y v:V}{u r:Value}{o:Option V}{A:Around}{E:Value->Shared->Prop}
theorem Inv.big(I:Inv X pins W H s):sysModules<s.heap.objs.size:=by
 have h:mainGlobals<s.heap.objs.size:=(I.mod.glob.keeps I.bk).lt;exact lt_trans (by decide) h
theorem s_(Y:A.units+1<cLine)(I:Inv X pins W H s)(g:gM H a y (some v))(U:RelV y u)(h:∀B s',Inv X pins W H s'->RelV v B->Q B s'):
  wpAny (model X.prog X.w) A (getItem (.ref a) u) Q E s:=by
 rcases g with⟨kvs,k,e,ey,l⟩|⟨kvs,k,b,e,ey,eb,l⟩
 .subst ey;obtain⟨z,hd,vs,rel,J⟩:=gQ I.hok e;obtain⟨B,hw,c⟩:=fQ.some_of (v:=v) (o:=valueAt vs k) (by rw[l];exact rel.val k)
  exact wpAny_getItem_of (iF U) J.mapOf hw<|h B _ (I.tok _) c
 .subst ey;cases(show u=Value.ref b from U);obtain⟨z,hd,xs,rel,J⟩:=jq I.hok e;obtain⟨B,hw,c⟩:=fQ.some_of (v:=v) (o:=(atKey xs k).map (·.2)) (by rw[l];exact rel.val k)
  obtain⟨p,Z,F⟩:=map_eq_some_iff.mp hw;refine wpAny_getItem_heap (tupleKind_room_in1 Y) (hZ I.hok eb) J Z ?_;rw[F];exact h B _ (I.tok _) c
theorem Fg(F:A.units+1<cLine)(I:Inv X pins W H s)(g:gM H a y o)(B:RelV y u)(h:∀s',Inv X pins W H s'->Q (.bool o.isSome) s'):
  wpAny (model X.prog X.w) A (compareOp .In u<|.ref a) Q E s:=by
 rcases g with⟨kvs,k,e,ey,l⟩|⟨kvs,k,b,e,ey,eb,l⟩
 .subst ey;obtain⟨z,hd,vs,rel,c⟩:=gQ I.hok e;refine wpAny_in_of (iF B) hd c.mapOf ?_;rw[<-(rel.val k).isSome_eq,<-l];exact h _<|I.tok _
 .subst ey;cases(show u=Value.ref b from B);obtain⟨z,hd,xs,rel,c⟩:=jq I.hok e;refine wpAny_in_heap (tupleKind_room_in1 F) (hZ I.hok eb) hd c ?_;have q:=(rel.val k).isSome_eq;rw[isSome_map] at q;rw[<-q,<-l];exact h _<|I.tok _
theorem yH(F:A.units+1<cLine)(I:Inv X pins W H s)(g:gM H a y o)(B:RelV y u)(h:∀s',Inv X pins W H s'->Q (.bool<|!o.isSome) s'):
  wpAny (model X.prog X.w) A (compareOp .NotIn u<|.ref a) Q E s:=by
 rcases g with⟨kvs,k,e,ey,l⟩|⟨kvs,k,b,e,ey,eb,l⟩
 .subst ey;obtain⟨z,hd,vs,rel,c⟩:=gQ I.hok e;refine wpAny_notIn_of (iF B) hd c.mapOf ?_;rw[<-(rel.val k).isSome_eq,<-l];exact h _<|I.tok _
 .subst ey;cases(show u=Value.ref b from B);obtain⟨z,hd,xs,rel,c⟩:=jq I.hok e;refine wpAny_notIn_heap (tupleKind_room_in1 F) (hZ I.hok eb) hd c ?_;have q:=(rel.val k).isSome_eq;rw[isSome_map] at q;rw[<-q,<-l];exact h _<|I.tok _
theorem mV{h':Heap}{t':Nat}{c:HO}(I:Inv X pins W H s)(B:DQ (H a))(hs:Heap.SameBut a s.heap h')(F:∃q,h'.get? a=some q)(new:bQ X.prog X.w (upd H a c) h' a c):
  Inv X pins W (upd H a c) {s with heap:=h',toks:=t'}:=
 I.write (x:=a) (e:=a) B (.inl rfl) (λb q J z=>(hs.2 b J).trans z) F new
theorem mU{h':Heap}{kvs:List (Key×V)}{vs:List (Key×Value)}(z:kvs.length<=sizeLine)(hd:(a==sysModules)=false)(rel:KV kvs vs)(c:h'.DictOf (bF P w) a vs):
  bQ P w H' h' a (.dK kvs):=⟨z,hd,vs,rel,c⟩
theorem sZ{Q:Unit->Shared->Prop}(hu:A.units+1<cLine)(I:Inv X pins W H s)(g:wO H a y v H')(Z:RelV y u)(rv:RelV v r)(h:∀s',Inv X pins W H' s'->Q () s'):
  wpAny (model X.prog X.w) A (setItem (.ref a) u r) Q E s:=by
 rcases g with⟨kvs,k,e,ey,l,eH⟩|⟨kvs,k,b,e,ey,eb,l,eH⟩
 .subst ey eH;obtain⟨z,hd,vs,rel,Y⟩:=oN I.hok e;have J:vs.length<=sizeLine:=by rw[<-rel.length];exact z
  have U:(putK kvs k v).length<=sizeLine:=by have:=eI kvs k v;omega
  refine wpAny_setItem_pairs (hsz:=J) (iF Z) Y λh' B hs=>h _ ?_;have he:∃q,h'.get? a=some q:=let⟨q,_,_,F,_⟩:=B;⟨q,F⟩;exact mV I (by rw[e];exact True.intro) hs he<|mU U hd (rel.put k rv) B
 .subst ey eH;cases(show u=Value.ref b from Z);obtain⟨z,hd,xs,rel,Y⟩:=DD I.hok e;have J:xs.length<=sizeLine:=by rw[<-Paired.length rel];exact z
  have U:(putK kvs k v).length<=sizeLine:=by have:=eI kvs k v;omega
  refine wpAny_setItem_heap (hsz:=J) (tupleKind_room_in1 hu) (hZ I.hok eb) Y λh' B hs=>h _ ?_;obtain⟨q,es,ep,F,h2,h3,h4,_,h5⟩:=B;refine mV I (by rw[e];exact True.intro) hs ⟨q,F⟩ ⟨U,hd,_,(rel.put k eb rv).keeps λc ys ec=>?_,q,es,ep,F,h2,h3,h4,h5⟩
  rw[aI<|cm ec e (λz=>nomatch z)];exact ec
end
section
variable{X:Cx}{pins:List (Addr×Obj)}{W:St}{H:Hp}{s:Shared}{a:Addr}{kvs:List (Key×V)}{A:Around}{E:Value->Shared->Prop}
theorem DE(I:Inv X pins W H s)(e:Rd H a (.dK kvs))(h:∀t s',Inv X pins W H s'->Q (.int kvs.length t) s'):wpAny (model X.prog X.w) A (call (.builtin "len") [.ref a]) Q E s:=by
 obtain⟨z,hd,vs,rel,c⟩:=gQ I.hok e;refine call_len_dict hd c (by rw[<-rel.length];rw[sizeLine_eq] at z;omega) ?_
 rw[<-rel.length];exact h _ _<|I.tok _
end
theorem oO{pins:List (Addr×Obj)}{W:St}{s:Shared}{o:Option V}(I:Inv X pins W H s)(g:gM H a y o):s.TypeIs (.ref a) "dict":=by
 rcases g with⟨kvs,k,e,_,_⟩|⟨kvs,k,b,e,_,_,_⟩
 .obtain⟨_,_,vs,_,c⟩:=gQ I.hok e;exact c.typeIs
 .obtain⟨_,_,xs,_,c⟩:=jq I.hok e;exact c.typeIs
def Cz(td ty tv:TE):TS:=λD W H=>tv W H λv H1=>td W H1 λx H2=>ty W H2 λy H3=>∃a H4,x=.ref a/\wO H3 a y v H4/\D.nx W H4
section
variable{X:Cx}{o i value:Expr}{pos pos':Pos}{td ty tv:TE}
theorem xK(F:X.A.units+1<cLine)(ho:PE X o td)(hi:PE X i ty)(B:PE X value tv)(hs:swapsWith value (some<|.Subscript o i pos') pos.line X.env=pure false):
  PS X (.Assign [.Subscript o i pos'] value pos) (Cz td ty tv):=by
 intro pins s W H D I h;refine wpAny_Assign_Subscript (bZ (B pins s W H _ I h) λr z ⟨v,H1,I1,rv,q1⟩=>bZ (ho pins z W H1 _ I1 q1) λu c ⟨x,H2,I2,rx,q2⟩=>bZ (hi pins c W H2 _ I2 q2) λZ Y ⟨y,H3,I3,ry,a,H4,ex,g,q3⟩=>?_) hs;subst ex;obtain rfl:u=Value.ref a:=rx;exact sZ F I3 g ry rv λU J=>⟨W,H4,J,q3⟩
end
theorem wj(h:Heap)(c:sysModules<h.objs.size):bQ P w H (h.push {cls:= .type "dict",data:= .dict #[]}) h.objs.size (.dK []):=
 ⟨zero_le _,beq_eq_false_iff_ne.mpr<|Ne.symm<|aw c,[],.nil,Heap.DictOf.new h⟩
section
end
def md:List (TE×TE)->St->Hp->(List (V×V)->Hp->Prop)->Prop
 |[],_,H,Q=>Q [] H
 |(tk,tv)::r,W,H,Q=>tk W H λx H1=>tv W H1 λy H2=>md r W H2 λps H3=>Q ((x,y)::ps) H3
abbrev VV:List (V×V)->List (Value×Value)->Prop:=Paired λp q=>RelV p.1 q.1/\RelV p.2 q.2
def DO(X:Cx)(pos:Pos)(keys:List (Option Expr))(values:List Expr)(trs:List (TE×TE)):Prop:=
 ∀(pins:List (Addr×Obj))(s:Shared)(W:St)(H:Hp)(Q:List (V×V)->Hp->Prop),Inv X pins W H s->md trs W H Q->
  wpAny (model X.prog X.w) X.A (evalPairs<|pairTrees keys values X.env pos) (λvs s'=>∃ps H',Inv X pins W H' s'/\VV ps vs/\Q ps H') X.xe s
theorem xM{pos:Pos}:DO X pos [] [] []:=λpins s W H Q I h=>pairTrees_nil_walk ⟨[],H,I,.nil,h⟩
theorem u8{pos:Pos}{k v:Expr}{ks:List (Option Expr)}{vs:List Expr}{tk tv:TE}{c:List (TE×TE)}(U:PE X k tk)(F:PE X v tv)(J:DO X pos ks vs c):
  DO X pos (some k::ks) (v::vs) ((tk,tv)::c):=λpins s W H Q I h=>
 pairTrees_cons_walk (bZ (U pins s W H _ I h) λu B ⟨x,H1,I1,rx,q1⟩=>bZ (F pins B W H1 _ I1 q1) λY z ⟨y,H2,I2,ry,q2⟩=>
  bZ (J pins z W H2 _ I2 q2) λws Z ⟨ps,H3,I3,rel,q3⟩=>⟨(x,y)::ps,H3,I3,.cons ⟨rx,ry⟩ rel,q3⟩)
def fY(kvs more:List (Key×V)):List (Key×V):=more.foldl (λacc kv=>putK acc kv.1 kv.2) kvs
theorem KV.merge:∀{more:List (Key×V)}{rs:List (Key×Value)}{kvs:List (Key×V)}{vs:List (Key×Value)},KV more rs->KV kvs vs->KV (fY kvs more) (merged vs rs):=by
 intro more rs kvs vs r;unfold KV at r
 induction r generalizing kvs vs with
 |nil=>intro q;exact q
 | @cons p q ps qs h t ih=>
  intro c
  have e:KV (putK kvs p.1 p.2) (stored vs q.1 q.2):=by have:=c.put p.1 h.2;rw[<-h.1];exact this
  exact ih e
theorem gN:∀(more kvs:List (Key×V)),(fY kvs more).length<=kvs.length+more.length
 |[],kvs=>by show kvs.length<=kvs.length+0;omega
 |p::r,kvs=>by have h1:=gN r<|putK kvs p.1 p.2;have h2:=eI kvs p.1 p.2;show(fY (putK kvs p.1 p.2) r).length<=_;rw[length_cons];omega
theorem kL{P:Program}{w:World}:∀{kvs:List (Key×V)}{ws:List (Value×Value)},VV (kvs.map λkv=>(kV kv.1,kv.2)) ws->∃rs,Carries (bF P w) ws rs/\KV kvs rs
 |[],_,r=>by rw[map_nil] at r;cases r;exact⟨[],True.intro,.nil⟩
 |p::kvs,_,r=>by
  rw[map_cons] at r;cases r with
  | @cons a b as bs h t=>obtain⟨rs,c,q⟩:=kL (P:=P) (w:=w) t;obtain⟨B,z⟩:=b;exact⟨(p.1,z)::rs,⟨iF h.1,rfl,c⟩,.cons ⟨rfl,h.2⟩ q⟩
def Ce(trs:List (TE×TE)):TE:=λW H Q=>∀p,H p=none->md trs W (upd H p<|.dK []) λps H2=>H2 p=some (.dK [])/\∃kvs:List (Key×V),ps=kvs.map (λkv=>(kV kv.1,kv.2))/\kvs.length<=15/\Q (.ref p) (upd H2 p<|.dK<|fY [] kvs)
theorem xS{pos:Pos}{keys:List (Option Expr)}{values:List Expr}{B:List (TE×TE)}(h:DO X pos keys values B)(F:keys.all (·.isSome)=true)(hl:keys.length=values.length)(h0:keys≠[])
  (U:keys.length<=15):PE X (.Dict keys values pos) (Ce B):=by
 intro pins s W H Q I q;have hn:=I.hok.fresh<|aa s.heap.objs.size;have I1:=I.laid (a:=s.heap.objs.size) (o:= .dK []) (h':=s.heap.push {cls:= .type "dict",data:= .dict #[]}) (t':=s.toks) (λ_ _ q=>ah _ q) (aa _)<|wj s.heap I.big;refine wpAny_Dict_walk (knd:=bF X.prog X.w) F hl h0 U<|bZ (h pins _ W _ _ I1<|q _ hn) λws s2 hp=>?_;obtain⟨ps,H2,Y,rel,e,kvs,ep,lk,q2⟩:=hp;subst ep;obtain⟨rs,c,rk⟩:=kL (P:=X.prog) (w:=X.w) rel;obtain⟨z,hd,vs0,Z,dd⟩:=oN Y.hok e;cases Z;refine⟨rs,c,dd,λh' J hs=>⟨.ref s.heap.objs.size,_,?_,rfl,q2⟩⟩
 have hz:(fY [] kvs).length<=sizeLine:=by have h1:=gN kvs [];rw[length_nil] at h1;rw[sizeLine_eq];omega
 have he:∃q,h'.get? s.heap.objs.size=some q:=let⟨q,_,_,hq,_⟩:=J;⟨q,hq⟩;exact mV Y (by rw[e];exact True.intro) hs he<|mU hz hd (rk.merge .nil) J
structure M1(X:Cx)(o:Expr)(m:Str)(apos:Pos)(e:Expr)(cpos:Pos):Prop where
 base:attributeBase o m X.env (eval o X.env)=eval o X.env
 few:((backTo cpos<|starEach [e] X.env).all (λx=> !x.1)&&(backToKw cpos<|keywordEach [] X.env).all (λx=>x.1.isSome)
  &&decide (([e]:List Expr).length+([]:List Keyword).length+(if([]:List Keyword).isEmpty then 0 else 1)<30))=true
 line:(apos.endLine==cpos.line)=true
 trees:backTo cpos (starEach [e] X.env)=[(false,eval e X.env)]
structure M2(X:Cx)(o:Expr)(m:Str)(apos:Pos)(e f:Expr)(cpos:Pos):Prop where
 base:attributeBase o m X.env (eval o X.env)=eval o X.env
 few:((backTo cpos<|starEach [e,f] X.env).all (λx=> !x.1)&&(backToKw cpos<|keywordEach [] X.env).all (λx=>x.1.isSome)
  &&decide (([e,f]:List Expr).length+([]:List Keyword).length+(if([]:List Keyword).isEmpty then 0 else 1)<30))=true
 line:(apos.endLine==cpos.line)=true
 trees:backTo cpos (starEach [e,f] X.env)=[(false,eval e X.env),(false,eval f X.env)]
def Fx(H:Hp)(a:Addr):Prop:=(∃kvs,Rd H a<|.dK kvs)∨∃kvs,Rd H a (.dT kvs)
theorem mB{pins:List (Addr×Obj)}{W:St}{s:Shared}(I:Inv X pins W H s)(d:Fx H a):
  s.TypeIs (.ref a) "dict" /\(∀b,Value.ref a=.ref b->∃c,s.heap.get? b=some c/\c.dict=none)/\(a==sysModules)=false:=by
 rcases d with⟨kvs,e⟩|⟨kvs,e⟩
 .obtain⟨_,hd,vs,_,z⟩:=gQ I.hok e;refine⟨z.typeIs,λb q=>?_,hd⟩;cases q;obtain⟨c,_,_,h1,h2,_⟩:=z;exact⟨c,h1,h2.2.1⟩
 .obtain⟨_,hd,xs,_,z⟩:=jq I.hok e;refine⟨z.typeIs,λb q=>?_,hd⟩;cases q;obtain⟨c,_,_,h1,h2,_⟩:=z;exact⟨c,h1,h2.2.1⟩
section
variable{X:Cx}{pins:List (Addr×Obj)}{W:St}{H:Hp}{s:Shared}{a:Addr}{y d:V}{u r:Value}{o:Option V}{A:Around}{E:Value->Shared->Prop}
theorem Bx(U:A.units+1<cLine)(I:Inv X pins W H s)(g:gM H a y o)(J:RelV y u)(h:∀B s',Inv X pins W H s'->RelV (o.getD .non) B->Q B s'):
  wpAny (model X.prog X.w) A (call (.builtin "dict.get") [.ref a,u]) Q E s:=by
 rcases g with⟨kvs,k,e,ey,l⟩|⟨kvs,k,b,e,ey,eb,l⟩
 .subst ey;obtain⟨z,hd,vs,rel,c⟩:=gQ I.hok e;refine call_meetsIn PySem.F.slot_dict_get c.typeIs PySem.F.entry_dict_get (PySem.F.args_dict_get_2 _ _) (meets_dict_get (bF X.prog X.w) a (iF J) hd) ⟨_,c.mapOf,h _ _ (I.tok _) ?_⟩;rw[l];exact(rel.val k).getD rfl
 .subst ey;cases(show u=Value.ref b from J);obtain⟨z,hd,xs,rel,c⟩:=jq I.hok e;refine call_meetsIn PySem.F.slot_dict_get c.typeIs PySem.F.entry_dict_get (PySem.F.args_dict_get_2 _ _) (meetsH_dict_get (tupleKind<|bF X.prog X.w) a b hd) ⟨tupleKind_room_in1 U,k,xs,hZ I.hok eb,c,h _ _ (I.tok _) ?_⟩;rw[l];exact(rel.val k).getD rfl
theorem Bw(Y:A.units+1<cLine)(I:Inv X pins W H s)(g:gM H a y o)(J:RelV y u)(U:RelV d r)(h:∀B s',Inv X pins W H s'->RelV (o.getD d) B->Q B s'):
  wpAny (model X.prog X.w) A (call (.builtin "dict.get") [.ref a,u,r]) Q E s:=by
 rcases g with⟨kvs,k,e,ey,l⟩|⟨kvs,k,b,e,ey,eb,l⟩
 .subst ey;obtain⟨z,hd,vs,rel,c⟩:=gQ I.hok e;refine call_meetsIn PySem.F.slot_dict_get c.typeIs PySem.F.entry_dict_get (PySem.F.args_dict_get_3 _ _ _) (meets_dict_get_default (bF X.prog X.w) a (iF J) hd r) ⟨_,c.mapOf,h _ _ (I.tok _) ?_⟩;rw[l];exact(rel.val k).getD U
 .subst ey;cases(show u=Value.ref b from J);obtain⟨z,hd,xs,rel,c⟩:=jq I.hok e;refine call_meetsIn PySem.F.slot_dict_get c.typeIs PySem.F.entry_dict_get (PySem.F.args_dict_get_3 _ _ _) (meetsH_dict_get_default (tupleKind<|bF X.prog X.w) a b hd r) ⟨tupleKind_room_in1 Y,k,xs,hZ I.hok eb,c,h _ _ (I.tok _) ?_⟩;rw[l];exact(rel.val k).getD U
end
def zU(td ty:TE):TE:=λW H Q=>td W H λx H1=>∃a,x=.ref a/\Fx H1 a/\ty W H1 λy H2=>∃o,gM H2 a y o/\Q (o.getD .non) H2
def zT(td ty tx:TE):TE:=λW H Q=>td W H λx H1=>∃a,x=.ref a/\Fx H1 a/\ty W H1 λy H2=>tx W H2 λz H3=>∃o,gM H3 a y o/\Q (o.getD z) H3
section
variable{X:Cx}{o e f:Expr}{apos cpos:Pos}{td ty tx:TE}
theorem vm(Y:X.A.units+1<cLine)(ho:PE X o td)(he:PE X e ty)(m:M1 X o "get" apos e cpos):PE X (.Call (.Attribute o "get" apos) [e] [] cpos) (zU td ty):=by intro pins s W H Q I h;refine wpAny_Call_method m.base m.few m.line PySem.F.plainAttrs_dict PySem.F.slot_dict_get PySem.F.type_dict_get<|bZ (ho pins s W H _ I h) λu J Z=>?_;obtain⟨x,H1,z,U,a,ex,d,q1⟩:=Z;subst ex;obtain rfl:u=Value.ref a:=U;obtain⟨B,t2,_⟩:=mB z d;refine⟨B,t2,?_⟩;rw[m.trees];refine Calls.callWith_builtin rfl<|Calls.evalArgs_plain<|Calls.spliced_cons<|bZ (he pins J W H1 _ z q1) λiv s2 ⟨y,H2,I2,ry,ov,g,q2⟩=>Calls.spliced_nil ?_;exact Bx Y I2 g ry λw' s3 I3 c=>⟨_,H2,I3,c,q2⟩
theorem vj(hu:X.A.units+1<cLine)(ho:PE X o td)(he:PE X e ty)(hf:PE X f tx)(m:M2 X o "get" apos e f cpos):PE X (.Call (.Attribute o "get" apos) [e,f] [] cpos) (zT td ty tx):=by
 intro pins s W H Q I h;refine wpAny_Call_method m.base m.few m.line PySem.F.plainAttrs_dict PySem.F.slot_dict_get PySem.F.type_dict_get<|bZ (ho pins s W H _ I h) λu Y hp=>?_;obtain⟨x,H1,B,Z,a,ex,d,q1⟩:=hp;subst ex;obtain rfl:u=Value.ref a:=Z;obtain⟨J,t2,_⟩:=mB B d;refine⟨J,t2,?_⟩;rw[m.trees]
 refine Calls.callWith_builtin rfl (Calls.evalArgs_plain (Calls.spliced_cons (bZ (he pins Y W H1 _ B q1) λiv U ⟨y,H2,I2,ry,q2⟩=>
  Calls.spliced_cons (bZ (hf pins U W H2 _ I2 q2) λfv s3 ⟨z,H3,I3,rz,ov,g,q3⟩=>Calls.spliced_nil ?_))))
 exact Bw hu I3 g ry rz λw' s4 I4 c=>⟨_,H3,I4,c,q3⟩
end
section
variable{X:Cx}{pins:List (Addr×Obj)}{W:St}{H:Hp}{s:Shared}{a:Addr}{kvs:List (Key×V)}{A:Around}{E:Value->Shared->Prop}
theorem wq(I:Inv X pins W H s)(e:Rd H a (.dK kvs))(h:∀p s',H p=none->Inv X pins W (upd H p<|.dK kvs) s'->Q (.ref p) s'):wpAny (model X.prog X.w) A (call (.type "dict") [.ref a]) Q E s:=by
 obtain⟨z,hd,vs,rel,F⟩:=gQ I.hok e;refine kt_call_dict hd F (by rw[<-rel.length];exact z) λh' c hs=>?_
 refine h _ _ (I.hok.fresh<|aa _)<|I.laid (a:=s.heap.objs.size) (o:= .dK kvs) (t':=s.toks) (λb q B=>?_) (aa _)<|mU z (beq_eq_false_iff_ne.mpr<|Ne.symm<|aw I.big) rel c;exact(hs.2 b<|aw<|au B).trans<|ah _ B
end
section
end
end L2
namespace Go
variable{f i v:Nat}
section
variable{ways:Nat->List Nat}
noncomputable def all(pile:List (Nat×Nat))(O:List Nat):List Nat:=O++pile.map (·.1)
def step(ways:Nat->List Nat):List (Nat×Nat)->List Nat->List (Nat×Nat)×List Nat
 |[],O=>([],O)
 |(v,i)::r,O=>match(ways v)[i]? with
  |none=>(r,O++[v])
  |some f=>if f∈all ((v,i)::r) O then((v,i+1)::r,O) else((f,0)::(v,i+1)::r,O)
inductive bE(ways:Nat->List Nat):Nat->Prop where
 |zero:bE ways 0
 |next {f v:Nat}(c:bE ways f)(h:v∈ways f):bE ways v
structure Inv(ways:Nat->List Nat)(pile:List (Nat×Nat))(O:List Nat):Prop where
 nd:(all pile O).Nodup
 zero:∃l,all pile O=l++[0]
 lead:∀v∈all pile O,v≠0->∃f,v∈ways f/\[v,f].Sublist (all pile O)
 cO:∀v∈O,∀w∈ways v,w∈all pile O
 cP:∀p∈pile,∀w∈(ways p.1).take p.2,w∈all pile O
 come:∀v∈all pile O,bE ways v
theorem iY:Inv ways [(0,0)] []:=by
 refine⟨by simp[all],⟨[],rfl⟩,λv c B=>?_,(λv c=>nomatch c),λp z w hw=>?_,λv c=>?_⟩
 .exact absurd (by simpa[all] using c) B
 .cases z with
  |head=>simp at hw
  |tail _ h=>cases h
 .have:v=0:=by simpa[all] using c
  subst this;exact .zero
theorem nk{v i:Nat}{r:List (Nat×Nat)}{O:List Nat}:all r (O++[v])=all ((v,i)::r) O:=by simp[all]
theorem wH{j:Nat}{r:List (Nat×Nat)}{O:List Nat}:(all ((v,i)::r) O).Sublist (all ((f,0)::(v,j)::r) O):=by unfold all;exact(Sublist.refl O).append<|List.sublist_cons_self f _
theorem lj{l:List Nat}{w:Nat}(h:l[i]? =some f)(hw:w∈l.take (i+1)):w∈l.take i∨w=f:=by rw[take_add_one,h] at hw;simpa using hw
theorem vF{pile:List (Nat×Nat)}{O:List Nat}(I:Inv ways pile O):Inv ways (step ways pile O).1 (step ways pile O).2:=by
 cases pile with
 |nil=>exact I
 |cons p r=>
  obtain⟨v,i⟩:=p;cases q:(ways v)[i]? with
  |none=>
   rw[show step ways ((v,i)::r) O=(r,O++[v]) by simp only[step,q]]
   have e:= @nk v i r O;have U:(ways v).take i=ways v:=take_of_length_le<|List.getElem?_eq_none_iff.mp q;refine⟨by rw[e];exact I.nd,by rw[e];exact I.zero,by rw[e];exact I.lead,λx c w hw=>?_,λp B w hw=>?_,by rw[e];exact I.come⟩
   .rw[e];rcases mem_append.mp c with c|c
    .exact I.cO x c w hw
    .have:x=v:=by simpa using c
     subst this;exact I.cP (x,i) mem_cons_self w (by rw[U];exact hw)
   .rw[e];exact I.cP p (mem_cons_of_mem _ B) w hw
  |some f=>
   have Z:f∈ways v:=ag q;by_cases k:f∈all ((v,i)::r) O
   .rw[show step ways ((v,i)::r) O=((v,i+1)::r,O) by simp only[step,q];rw[if_pos k]]
    refine⟨I.nd,I.zero,I.lead,I.cO,λp B w hw=>?_,I.come⟩;rcases mem_cons.mp B with rfl|B
    .rcases lj q hw with hw|rfl
     .exact I.cP (v,i) mem_cons_self w hw
     .exact k
    .exact I.cP p (mem_cons_of_mem _ B) w hw
   .rw[show step ways ((v,i)::r) O=((f,0)::(v,i+1)::r,O) by simp only[step,q];rw[if_neg k]]
    have sb:(all ((v,i)::r) O).Sublist (all ((f,0)::(v,i+1)::r) O):=wH
    have J:∀{w},w∈all ((f,0)::(v,i+1)::r) O↔w=f∨w∈all ((v,i)::r) O:=λ{w}=>by
     simp only[all,map_cons,mem_append,mem_cons];constructor
     .rintro(h|h|h|h)
      .exact .inr<|.inl h
      .exact .inl h
      .exact .inr<|.inr<|.inl h
      .exact .inr<|.inr<|.inr h
     .rintro(h|h|h|h)
      .exact .inr<|.inl h
      .exact .inl h
      .exact .inr<|.inr<|.inl h
      .exact .inr<|.inr<|.inr h
    refine⟨?_,?_,λx c hn=>?_,λx c w hw=>J.mpr<|.inr<|I.cO x c w hw,λp B w hw=>?_,λx c=>?_⟩
    .have nd:=I.nd;unfold all at nd k ⊢;simp only[map_cons] at nd k ⊢;rw[nodup_append] at nd ⊢;simp only[mem_append] at k;refine⟨nd.1,nodup_cons.mpr ⟨λh=>k<|.inr h,nd.2.1⟩,λa ha b Y=>?_⟩;rcases mem_cons.mp Y with rfl|Y
     .exact λz=>k<|.inl<|z▸ha
     .exact nd.2.2 a ha b Y
    .obtain⟨l,U⟩:=I.zero;have:∃l',(v,i+1)::r=l'++[]:=⟨_,(append_nil _).symm⟩;unfold all at U ⊢;simp only[map_cons] at U ⊢;have F:(v::r.map (·.1))≠[]:=by simp
     refine⟨O++f::(v::r.map (·.1)).dropLast,?_⟩
     have H:(v::r.map (·.1)).getLast F=0:=by
      have h1:(O++v::r.map (·.1)).getLast (by simp)=0:=by simp only[U,List.getLast_append,List.getLast_singleton];simp
      rw[List.getLast_append_of_ne_nil (by simp) F] at h1
      exact h1
     have h2:=List.dropLast_concat_getLast F;rw[H] at h2;rw[append_assoc,cons_append,h2]
    .rcases J.mp c with rfl|c
     .refine⟨v,Z,?_⟩;unfold all;simp only[map_cons];exact(List.nil_sublist O).append<|.cons_cons _<|.cons_cons _<|List.nil_sublist _
     .obtain⟨g,h1,h2⟩:=I.lead x c hn;exact⟨g,h1,h2.trans sb⟩
    .rcases mem_cons.mp B with rfl|B
     .simp at hw
     .rcases mem_cons.mp B with rfl|B
      .rcases lj q hw with hw|rfl
       .exact J.mpr<|.inr<|I.cP (v,i) mem_cons_self w hw
       .exact J.mpr<|.inl rfl
      .exact J.mpr<|.inr<|I.cP p (mem_cons_of_mem _ B) w hw
    .rcases J.mp c with rfl|c
     .exact .next (I.come v (by simp[all])) Z
     .exact I.come x c
theorem re{O:List Nat}(I:Inv ways [] O):v∈O↔bE ways v:=by
 have e:all [] O=O:=by simp[all]
 constructor
 .intro h;exact I.come v (by rw[e];exact h)
 .intro h
  induction h with
  |zero=>obtain⟨l,z⟩:=I.zero;rw[e] at z;rw[z];simp
  |next c h ih=>have:=I.cO _ ih _ h;rwa [e] at this
theorem mh:∀{l:List Nat}{a b:Nat},l.Nodup->[a,b].Sublist l->l.idxOf a<l.idxOf b
 |[],_,_,_,h=>by cases h
 |x::l,a,b,nd,h=>by
  obtain⟨h1,h2⟩:=nodup_cons.mp nd;rw[idxOf_cons,idxOf_cons];cases h with
  |cons _ h=>
   have F:a∈l:=h.subset mem_cons_self;have c:b∈l:=h.subset<|mem_cons_of_mem _ mem_cons_self;have H:(x==a)=false:=by simp;intro z;subst z;exact h1 F
   have B:(x==b)=false:=by simp;intro z;subst z;exact h1 c
   rw[H,B];have:=mh h2 h;simp only[cond_false];omega
  |cons_cons _ h=>
   have c:b∈l:=h.subset mem_cons_self;have B:(x==b)=false:=by simp;intro z;subst z;exact h1 c
   rw[B];simp
theorem mH:∀{l:List Nat}{a b:Nat},a∈l->b∈l->l.idxOf a=l.idxOf b->a=b
 |[],_,_,h,_,_=>by cases h
 |x::l,a,b,ha,hb,e=>by
  rw[idxOf_cons,idxOf_cons] at e;by_cases ea:x=a
  .by_cases eb:x=b
   .rw[<-ea,<-eb]
   .have h1:(x==a)=true:=by simpa using ea
    have h2:(x==b)=false:=by simpa using eb
    rw[h1,h2] at e;simp at e
  .by_cases eb:x=b
   .have h1:(x==a)=false:=by simpa using ea
    have h2:(x==b)=true:=by simpa using eb
    rw[h1,h2] at e;simp at e
   .have h1:(x==a)=false:=by simpa using ea
    have h2:(x==b)=false:=by simpa using eb
    rw[h1,h2] at e
    have B:a∈l:=by
     rcases mem_cons.mp ha with z|z
     .exact absurd z.symm ea
     .exact z
    have c:b∈l:=by
     rcases mem_cons.mp hb with z|z
     .exact absurd z.symm eb
     .exact z
    exact mH B c (by simpa using e)
theorem lB{O:List Nat}(I:Inv ways [] O){x:Nat}(F:x∈O):O.idxOf x<=O.idxOf 0:=by
 have e:all [] O=O:=by simp[all]
 obtain⟨l,B⟩:=I.zero;have nd:=I.nd;rw[e] at B nd;by_cases z:x=0
 .subst z;exact aa _
 .rw[B] at F;have c:x∈l:=by simpa[z] using F
  refine le_of_lt<|mh nd ?_;rw[B];exact Sublist.append (List.singleton_sublist.mpr c)<|Sublist.refl [0]
theorem lC{O:List Nat}(I:Inv ways [] O){b:Nat}(z:b∈O)(c:b≠0):∃f,b∈ways f/\f∈O/\O.idxOf b<O.idxOf f:=by
 have e:all [] O=O:=by simp[all]
 have nd:=I.nd;rw[e] at nd;obtain⟨f,h1,h2⟩:=I.lead b (by rw[e];exact z) c
 rw[e] at h2;exact⟨f,h1,h2.subset (by simp),mh nd h2⟩
theorem me{w:Nat->Nat}{p q:Nat->Bool}{f:Nat}(I:p f=true)(H:q f=false)(B:∀x,x≠f->q x=p x):∀{l:List Nat},l.Nodup->f∈l->((l.filter p).map w).sum=((l.filter q).map w).sum+w f
 |[],_,h=>by cases h
 |x::l,nd,h=>by
  obtain⟨h1,h2⟩:=nodup_cons.mp nd;by_cases e:x=f
  .subst e;have same:∀{m:List Nat},x∉m->m.filter p=m.filter q:=λ{m} c=>List.filter_congr λy J=>(B y λz=>c<|z▸J).symm;rw[filter_cons_of_pos I,filter_cons_of_neg (by simp[H]),same h1,map_cons,sum_cons,Nat.add_comm]
  .have c:f∈l:=by
    rcases mem_cons.mp h with z|z
    .exact absurd z.symm e
    .exact z
   have F:=me (w:=w) I H B h2 c;have ex:=B x e;cases k:p x with
   |true=>
    rw[filter_cons_of_pos k,filter_cons_of_pos (by rw[ex];exact k),map_cons,map_cons,sum_cons,sum_cons,F]
    omega
   |false=>
    rw[filter_cons_of_neg (by simp[k]),filter_cons_of_neg (by simp[ex,k])]
    exact F
def left(ways:Nat->List Nat)(n:Nat)(pile:List (Nat×Nat))(O:List Nat):Nat:=(((range n).filter λv=>decide<|v∉all pile O).map λv=>(ways v).length+1).sum+(pile.map λp=>(ways p.1).length - p.2+1).sum
theorem sK{n:Nat}{r:List (Nat×Nat)}{O:List Nat}(hw:∀v f,f∈ways v->f<n):left ways n (step ways ((v,i)::r) O).1 (step ways ((v,i)::r) O).2<left ways n ((v,i)::r) O:=by
 cases q:(ways v)[i]? with
 |none=>
  rw[show step ways ((v,i)::r) O=(r,O++[v]) by simp only[step,q]]
  unfold left;dsimp only;rw[@nk v i r O,map_cons,sum_cons];omega
 |some f=>
  have B:f∈ways v:=ag q;have hi:i<(ways v).length:=(aq q).1;by_cases k:f∈all ((v,i)::r) O
  .rw[show step ways ((v,i)::r) O=((v,i+1)::r,O) by simp only[step,q];rw[if_pos k]]
   unfold left;rw[show all ((v,i+1)::r) O=all ((v,i)::r) O from rfl,map_cons,map_cons,sum_cons,sum_cons];dsimp only;omega
  .rw[show step ways ((v,i)::r) O=((f,0)::(v,i+1)::r,O) by simp only[step,q];rw[if_neg k]]
   unfold left
   have c:∀x,x∈all ((f,0)::(v,i+1)::r) O↔x=f∨x∈all ((v,i)::r) O:=λx=>by
    simp only[all,map_cons,mem_append,mem_cons];constructor
    .rintro(h|h|h|h)
     .exact .inr<|.inl h
     .exact .inl h
     .exact .inr<|.inr<|.inl h
     .exact .inr<|.inr<|.inr h
    .rintro(h|h|h|h)
     .exact .inr<|.inl h
     .exact .inl h
     .exact .inr<|.inr<|.inl h
     .exact .inr<|.inr<|.inr h
   have s:=me (w:=λv=>(ways v).length+1) (p:=λx=>decide<|x∉all ((v,i)::r) O) (q:=λx=>decide<|x∉all ((f,0)::(v,i+1)::r) O) (f:=f) (by simpa using k) (by simp[c]) (λx z=>by simp[c,z]) (nodup_range (n:=n))<|mem_range.mpr<|hw v f B
   rw[s,map_cons,map_cons,map_cons,sum_cons,sum_cons,sum_cons];dsimp only;omega
end
end Go
namespace Dom
variable{b c r x y:Nat}{l l1 l2:List Nat}
section
variable{E:Nat->Nat->Prop}{rank:Nat->Nat}{N:Nat->Option Nat}
inductive Way(E:Nat->Nat->Prop):List Nat->Nat->Prop where
 |nil:Way E [0] 0
 |cons {l:List Nat}{x y:Nat}(w:Way E l x)(e:E x y):Way E (y::l) y
noncomputable def c4(E:Nat->Nat->Prop)(d x:Nat):Prop:=∀l,Way E l x->d∈l
noncomputable def bE(E:Nat->Nat->Prop)(x:Nat):Prop:=∃l,Way E l x
theorem Way.last(w:Way E l x):x∈l:=by
 cases w with
 |_=>exact mem_cons_self
theorem jZ:c4 E x x:=λ_ w=>w.last
theorem c4.lead{d:Nat}(h:c4 E d y)(c:d≠y)(e:E x y):c4 E d x:=λl w=>by
 rcases mem_cons.mp (h _<|.cons w e) with z|z
 .exact absurd z c
 .exact z
inductive Chain(N:Nat->Option Nat):Nat->Nat->Prop where
 |self {x y:Nat}(h:N x=some y):Chain N x x
 |step {x y c:Nat}(hx:x≠0)(h:N x=some y)(t:Chain N y c):Chain N x c
structure Rk(E:Nat->Nat->Prop)(rank:Nat->Nat):Prop where
 inj:∀x y,bE E x->bE E y->rank x=rank y->x=y
 top:∀x,bE E x->rank x<=rank 0
structure Ok(E:Nat->Nat->Prop)(rank:Nat->Nat)(N:Nat->Option Nat):Prop where
 zero:N 0=some 0
 dom:∀x y,N x=some y->bE E x
 up:∀x y,x≠0->N x=some y->rank x<rank y/\∃z,N y=some z
 rul:∀x y d,x≠0->N x=some y->c4 E d x->d≠x->c4 E d y
theorem Chain.le(K:Ok E rank N)(t:Chain N x c):rank x<=rank c/\(rank x=rank c->x=c):=by
 induction t with
 |self h=>exact⟨aa _,λ_=>rfl⟩
 | @step x y c hx h t ih=>
  have:=(K.up x y hx h).1;exact⟨by omega,λe=>by omega⟩
theorem Chain.trans(t:Chain N x y)(u:Chain N y c):Chain N x c:=by
 induction t with
 |self h=>exact u
 |step hx h _ ih=>exact .step hx h<|ih u
noncomputable def gR(rank:Nat->Nat)(N:Nat->Option Nat):Nat->Nat->Nat->Option Nat
 |0,_,_=>none
 |k+1,a,b=>if a=b then some a else if rank a<rank b then(N a).bind λa'=>gR rank N k a' b else(N b).bind λb'=>gR rank N k a b'
theorem kK(R:Rk E rank)(K:Ok E rank N):∀(k a b:Nat),(∃y,N a=some y)->(∃y,N b=some y)->(rank 0 - rank a)+(rank 0 - rank b)<k->∃r,gR rank N k a b=some r/\(∃y,N r=some y)/\∀c,Chain N r c↔Chain N a c/\Chain N b c
 |0,a,b,_,_,h=>by omega
 |k+1,a,b,⟨ya,ha⟩,⟨yb,hb⟩,h=>by
  unfold gR;by_cases e:a=b
  .subst e;rw[if_pos rfl];exact⟨a,rfl,⟨ya,ha⟩,λc=>⟨λt=>⟨t,t⟩,λt=>t.1⟩⟩
  .rw[if_neg e];have ta:=R.top a<|K.dom a ya ha;have tb:=R.top b<|K.dom b yb hb;by_cases hr:rank a<rank b
   .rw[if_pos hr,ha];have H:a≠0:=λz=>by subst z;omega
    obtain⟨Y,B,F⟩:=K.up a ya H ha;have t2:=R.top ya<|K.dom ya B F;obtain⟨r,U,J,I⟩:=kK R K k ya b ⟨B,F⟩ ⟨yb,hb⟩ (by omega)
    refine⟨r,U,J,λc=>?_⟩;rw[I];refine⟨λt=>⟨.step H ha t.1,t.2⟩,λt=>⟨?_,t.2⟩⟩;cases t.1 with
    |self _=>have:=(t.2.le K).1;omega
    |step _ h' t'=>rw[ha] at h';cases h';exact t'
   .rw[if_neg hr,hb];have Z:rank a≠rank b:=λz=>e (R.inj a b (K.dom a _ ha) (K.dom b _ hb) z);have H:b≠0:=λz=>by subst z;omega
    obtain⟨Y,B,F⟩:=K.up b yb H hb;have t2:=R.top yb<|K.dom yb B F;obtain⟨r,U,J,I⟩:=kK R K k a yb ⟨ya,ha⟩ ⟨B,F⟩ (by omega)
    refine⟨r,U,J,λc=>?_⟩;rw[I];refine⟨λt=>⟨t.1,.step H hb t.2⟩,λt=>⟨t.1,?_⟩⟩;cases t.2 with
    |self _=>have:=(t.1.le K).1;omega
    |step _ h' t'=>rw[hb] at h';cases h';exact t'
def meet(rank:Nat->Nat)(N:Nat->Option Nat)(k:Nat):Nat->List Nat->Option Nat
 |r,[]=>some r
 |r,p::ps=>(gR rank N k p r).bind λr'=>meet rank N k r' ps
theorem qV(R:Rk E rank)(K:Ok E rank N){k:Nat}(H:2*rank 0<k):∀(ps:List Nat)(r:Nat),(∃y,N r=some y)->(∀p∈ps,∃y,N p=some y)->∃q,meet rank N k r ps=some q/\(∃y,N q=some y)/\∀c,Chain N q c↔Chain N r c/\∀p∈ps,Chain N p c
 |[],r,hr,_=>⟨r,rfl,hr,λc=>⟨λt=>⟨t,λ_ h=>nomatch h⟩,λt=>t.1⟩⟩
 |p::ps,r,hr,hp=>by
  obtain⟨q,U,J,I⟩:=kK R K k p r (hp p mem_cons_self) hr (by omega)
  obtain⟨F,f1,f2,f3⟩:=qV R K H ps q J λp B=>hp p<|mem_cons_of_mem _ B;refine⟨F,?_,f2,λc=>?_⟩
  .show(gR rank N k p r).bind _=_;rw[U];exact f1
  .rw[f3,I];refine⟨λt=>⟨t.1.2,λz h=>?_⟩,λt=>⟨⟨t.2 p mem_cons_self,t.1⟩,λz h=>t.2 z<|mem_cons_of_mem _ h⟩⟩;rcases mem_cons.mp h with rfl|h
   .exact t.1.1
   .exact t.2 z h
noncomputable def put(N:Nat->Option Nat)(b r:Nat):Nat->Option Nat:=λx=>if x=b then some r else N x
theorem fb:put N b r b=some r:=by simp[put]
theorem fU(h:x≠b):put N b r x=N x:=by simp[put,h]
theorem j6(R:Rk E rank)(K:Ok E rank N){d:Nat}:∀(k x:Nat),rank 0 - rank x<k->(∃y,N x=some y)->c4 E d x->Chain N x d/\∀c,Chain N x c->Chain N c d->c4 E d c
 |0,x,h,_,_=>by omega
 |k+1,x,h,⟨y,hy⟩,hr=>by
  by_cases e:d=x
  .subst e;refine⟨.self hy,λc t u=>?_⟩;have h1:=t.le K;have h2:=u.le K;have:d=c:=h1.2 (by omega)
   subst this;exact hr
  .have B:x≠0:=λz=>by
    subst z;have:=hr [0] .nil;exact e (by simpa using this)
   obtain⟨H,z,F⟩:=K.up x y B hy;have ty:=R.top y<|K.dom y z F;obtain⟨q1,q2⟩:=j6 R K k y (by omega) ⟨z,F⟩<|K.rul x y d B hy hr e
   refine⟨.step B hy q1,λc t u=>?_⟩;cases t with
   |self _=>exact hr
   |step _ h' t'=>rw[hy] at h';cases h';exact q2 c t' u
theorem Ok.put(R:Rk E rank)(K:Ok E rank N){b r H:Nat}{ps:List Nat}(hb:b≠0)(cb:bE E b)(F:H∈ps)(h0:rank b<rank H)(J:∀p∈ps,E p b/\∃y,N p=some y)(hr:∃y,N r=some y)
  (hc:∀c,Chain N r c↔∀p∈ps,Chain N p c):Ok E rank (put N b r)/\rank b<rank r:=by
 obtain⟨yr,B⟩:=hr
 have I:rank b<rank r:=by have:=(((hc r).mp (.self B) H F).le K).1;omega
 have Z:r≠b:=λz=>by subst z;omega
 refine⟨⟨by rw[fU<|Ne.symm hb];exact K.zero,λx y h=>?_,λx y Y h=>?_,λx y d Y h hd hn=>?_⟩,I⟩
 .by_cases e:x=b
  .subst e;exact cb
  .rw[fU e] at h;exact K.dom x y h
 .by_cases e:x=b
  .subst e;rw[fb] at h;cases h;exact⟨I,yr,by rw[fU Z];exact B⟩
  .rw[fU e] at h;obtain⟨u1,z,u2⟩:=K.up x y Y h;refine⟨u1,?_⟩;by_cases e2:y=b
   .subst e2;exact⟨r,fb⟩
   .exact⟨z,by rw[fU e2];exact u2⟩
 .by_cases e:x=b
  .subst e;rw[fb] at h;cases h;have key:∀p∈ps,Chain N p d/\∀c,Chain N p c->Chain N c d->c4 E d c:=λp U=>j6 R K (rank 0 - rank p+1) p (by omega) (J p U).2 (hd.lead hn (J p U).1)
   exact(key H F).2 r ((hc r).mp (.self B) H F)<|(hc d).mpr λp U=>(key p U).1
  .rw[fU e] at h;exact K.rul x y d Y h hd hn
theorem sW(z:∀x b r,b≠0->N b=some r->E x b->bE E x->∀c,Chain N r c->Chain N x c)(w:Way E l b):∀c,Chain N b c->c∈l:=by
 induction w with
 |nil=>
  intro c t;cases t with
  |self _=>exact mem_cons_self
  |step hz _ _=>exact absurd rfl hz
 | @cons l x y w e ih=>
  intro c t;cases t with
  |self _=>exact mem_cons_self
  |step hz h t=>exact mem_cons_of_mem _<|ih c<|z x y _ hz h e ⟨l,w⟩ c t
theorem sr(R:Rk E rank)(K:Ok E rank N)(B:∀x b r,b≠0->N b=some r->E x b->bE E x->∀c,Chain N r c->Chain N x c)(z:∃y,N b=some y):Chain N b c↔c4 E c b:=
 ⟨λt l w=>sW B w c t,λh=>(j6 R K (rank 0 - rank b+1) b (by omega) z h).1⟩
theorem ig{P:Nat->Option Nat}(h:∀x y,N x=some y->∃z,P x=some z/\(x≠0->Chain P z y))(t:Chain N x c):Chain P x c:=by
 induction t with
 | @self x y hx=>obtain⟨z,B,_⟩:=h x y hx;exact .self B
 | @step x y c hn hx t ih=>obtain⟨z,B,q⟩:=h x y hx;exact .step hn B<|(q hn).trans ih
theorem FY(K:Ok E rank N){a:Nat}(t:Chain N x a)(u:Chain N x b)(h:rank a<=rank b):Chain N a b:=by
 induction t with
 |self _=>exact u
 | @step x y a hx hy t ih=>
  have h1:=(K.up x y hx hy).1;have h2:=(t.le K).1;cases u with
  |self _=>omega
  |step _ h' u'=>rw[hy] at h';cases h';exact ih u' h
noncomputable def mix(rank:Nat->Nat)(P Q:Nat->Option Nat)(t:Nat):Nat->Option Nat:=λx=>if t<rank x then Q x else P x
variable{P Q:Nat->Option Nat}{t:Nat}
theorem ci(h:t<rank x):mix rank P Q t x=Q x:=by simp[mix,h]
theorem dh(h:¬t<rank x):mix rank P Q t x=P x:=by simp[mix,h]
theorem Ok.mix(KP:Ok E rank P)(KQ:Ok E rank Q)(J:∀x,bE E x->∃y,P x=some y)(I:∀x,bE E x->∃y,Q x=some y):Ok E rank (mix rank P Q t):=by
 have H:∀x,bE E x->∃y,Dom.mix rank P Q t x=some y:=λx h=>by
  by_cases e:t<rank x
  .rw[ci e];exact I x h
  .rw[dh e];exact J x h
 refine⟨?_,λx y h=>?_,λx y c h=>?_,λx y d c h=>?_⟩
 .by_cases e:t<rank 0
  .rw[ci e];exact KQ.zero
  .rw[dh e];exact KP.zero
 all_goals by_cases e:t<rank x
 .rw[ci e] at h;exact KQ.dom x y h
 .rw[dh e] at h;exact KP.dom x y h
 .rw[ci e] at h;obtain⟨F,z,B⟩:=KQ.up x y c h;exact⟨F,H y<|KQ.dom y z B⟩
 .rw[dh e] at h;obtain⟨F,z,B⟩:=KP.up x y c h;exact⟨F,H y<|KP.dom y z B⟩
 .rw[ci e] at h;exact KQ.rul x y d c h
 .rw[dh e] at h;exact KP.rul x y d c h
theorem hU(KQ:Ok E rank Q)(h:t<rank x):Chain (mix rank P Q t) x c↔Chain Q x c:=by
 constructor
 .intro u
  induction u with
  |self hy=>rw[ci h] at hy;exact .self hy
  | @step x y c hx hy u ih=>rw[ci h] at hy;exact .step hx hy<|ih<|lt_trans h (KQ.up x y hx hy).1
 .intro u
  induction u with
  |self hy=>exact .self (by rw[ci h];exact hy)
  | @step x y c hx hy u ih=>exact .step hx (by rw[ci h];exact hy)<|ih<|lt_trans h (KQ.up x y hx hy).1
theorem low(KP:Ok E rank P)(F:∀x,bE E x->∃y,Q x=some y)(u:Chain P x r)(h:rank r<=t+1):Chain (mix rank P Q t) x r:=by
 induction u with
 | @self x y hy=>
  by_cases e:t<rank x
  .obtain⟨z,B⟩:=F x<|KP.dom x y hy;exact .self (y:=z) (by rw[ci e];exact B)
  .exact .self (y:=y) (by rw[dh e];exact hy)
 | @step x y c hx hy u ih=>
  have h1:=(KP.up x y hx hy).1;have h2:=(u.le KP).1;exact .step hx (y:=y) (by rw[dh (by omega)];exact hy)<|ih h
structure Fit(E:Nat->Nat->Prop)(rank:Nat->Nat)(P:Nat->Option Nat):Prop where
 ok:Ok E rank P
 all:∀x,bE E x->∃y,P x=some y
 met:∀b r,b≠0->P b=some r->∀c,(∀p,E p b->bE E p->Chain P p c)->Chain P r c
 fwd:∀b r f,b≠0->P b=some r->E f b->bE E f->rank b<rank f->Chain P f r
structure Turn(E:Nat->Nat->Prop)(rank:Nat->Nat)(P Q:Nat->Option Nat):Prop where
 ok:Ok E rank Q
 all:∀x,bE E x->∃y,Q x=some y
 eq:∀b q,b≠0->Q b=some q->∀c,Chain (mix rank P Q<|rank b) q c↔∀p,E p b->bE E p->Chain (mix rank P Q<|rank b) p c
theorem l_(R:Rk E rank)(F:Fit E rank P)(T:Turn E rank P Q):∀(k y r q:Nat),rank 0 - rank y<k->y≠0->P y=some r->Q y=some q->Chain P r q
 |0,y,r,q,h,_,_,_=>by omega
 |k+1,y,r,q,h,hy,hr,hq=>by
  have sub:∀x c,Chain (mix rank P Q<|rank y) x c->Chain P x c:=λx c u=>ig (λx z B=>by
   by_cases e:rank y<rank x
   .rw[ci e] at B;obtain⟨w,hw⟩:=F.all x (T.ok.dom x z B);have:=R.top x (T.ok.dom x z B);exact⟨w,hw,λI=>l_ R F T k x w z (by omega) I hw B⟩
   .rw[dh e] at B;refine⟨z,B,λI=>?_⟩;obtain⟨_,v,H⟩:=F.ok.up x z I B;exact .self H) u
  obtain⟨J,v,H⟩:=T.ok.up y q hy hq;have hs:Chain (mix rank P Q<|rank y) q q:= .self (y:=v) (by rw[ci J];exact H)
  exact F.met y r hy hr q λp e U=>sub _ _<|(T.eq y q hy hq q).mp hs p e U
theorem nJ(R:Rk E rank)(F:Fit E rank P)(T:Turn E rank P Q)(par:∀b,b≠0->bE E b->∃f,E f b/\bE E f/\rank b<rank f):
  ∀(k t y r q:Nat),rank 0 - rank y<k->y≠0->rank y<=t->P y=some r->Q y=some q->Chain (mix rank P Q t) r q
 |0,t,y,r,q,h,_,_,_,_=>by omega
 |k+1,t,y,r,q,h,hy,ht,hr,hq=>by
  obtain⟨f,e,U,J⟩:=par y hy<|F.ok.dom y r hr;obtain⟨Z,v,hv⟩:=T.ok.up y q hy hq;have hs:Chain (mix rank P Q<|rank y) q q:= .self (y:=v) (by rw[ci Z];exact hv)
  have A0:=(T.eq y q hy hq q).mp hs f e U;have hC:=((l_ R F T _ y r q (aJ _) hy hr hq).le F.ok).1
  have key:∀t2,t<=t2->rank r<=t2+1->Chain (mix rank P Q t2) r q:=λt2 h1 h2=>by
   have A:Chain (mix rank P Q t2) f q:=ig (λx z c=>by
    by_cases e1:rank y<rank x
    .rw[ci e1] at c;have:=R.top x (T.ok.dom x z c);by_cases e2:t2<rank x
     .refine⟨z,by rw[ci e2];exact c,λH=>?_⟩
      obtain⟨l1,w,hw⟩:=T.ok.up x z H c;exact .self (y:=w) (by rw[ci (by omega)];exact hw)
     .obtain⟨w,hw⟩:=F.all x (T.ok.dom x z c);exact⟨w,by rw[dh e2];exact hw,λH=>nJ R F T par k t2 x w z (by omega) H (by omega) hw c⟩
    .rw[dh e1] at c;refine⟨z,by rw[dh (by omega)];exact c,λH=>?_⟩
     obtain⟨l1,w,hw⟩:=F.ok.up x z H c;by_cases e3:t2<rank z
     .obtain⟨Y,I⟩:=T.all z (F.ok.dom z w hw);exact .self (y:=Y) (by rw[ci e3];exact I)
     .exact .self (y:=w) (by rw[dh e3];exact hw)) A0
   have B:Chain (mix rank P Q t2) f r:=low F.ok T.all (F.fwd y r f hy hr e U J) h2;exact FY (Ok.mix F.ok T.ok F.all T.all) B A hC
  by_cases e:rank r<=t+1
  .exact key t (aa _) e
  .have:=key (rank r - 1) (by omega) (by omega)
   exact(hU T.ok (by omega)).mpr<|(hU T.ok (by omega)).mp this
theorem t_(R:Rk E rank)(F:Fit E rank P)(T:Turn E rank P Q)(par:∀b,b≠0->bE E b->∃f,E f b/\bE E f/\rank b<rank f):Fit E rank Q:=by
 refine⟨T.ok,T.all,λb q H B c hc=>?_,λb q f H B e hf Y=>?_⟩
 .obtain⟨J,v,Z⟩:=T.ok.up b q H B;refine(hU (P:=P) T.ok J).mp<|(T.eq b q H B c).mpr λp e hp=>ig (λx z I=>?_)<|hc p e hp;by_cases e1:rank b<rank x
  .refine⟨z,by rw[ci e1];exact I,λU=>?_⟩
   obtain⟨l1,w,hw⟩:=T.ok.up x z U I;exact .self (y:=w) (by rw[ci (by omega)];exact hw)
  .obtain⟨w,hw⟩:=F.all x<|T.ok.dom x z I;exact⟨w,by rw[dh e1];exact hw,λU=>nJ R F T par _ (rank b) x w z (aJ _) U (by omega) hw I⟩
 .obtain⟨J,v,Z⟩:=T.ok.up b q H B;have hs:Chain (mix rank P Q<|rank b) q q:= .self (y:=v) (by rw[ci J];exact Z)
  exact(hU T.ok Y).mp<|(T.eq b q H B q).mp hs f e hf
theorem rV(R:Rk E rank)(F:Fit E rank P)(T:Turn E rank P Q){q:Nat}(c:y≠0)(z:P y=some r)(B:Q y=some q):rank r<=rank q/\(rank r=rank q->r=q):=
 (l_ R F T _ y r q (aJ _) c z B).le F.ok
theorem nL(R:Rk E rank)(F:Fit E rank P)(T:Turn E rank P P)(z:bE E b):Chain P b c↔c4 E c b:=by
 have I:∀t,mix rank P P t=P:=λt=>by funext x;simp[mix]
 refine sr R F.ok (λx b r z H e B c h=>?_)<|F.all b z;have:=T.eq b r z H c;rw[I] at this;exact this.mp h x e B
structure Turn1(E:Nat->Nat->Prop)(rank:Nat->Nat)(Q:Nat->Option Nat):Prop where
 ok:Ok E rank Q
 all:∀x,bE E x->∃y,Q x=some y
 eq:∀b q,b≠0->Q b=some q->∀c,Chain (mix rank (λ_=>none) Q<|rank b) q c↔∀p,E p b->bE E p->rank b<rank p->Chain (mix rank (λ_=>none) Q<|rank b) p c
theorem lh(T:Turn1 E rank Q):Fit E rank Q:=by
 refine⟨T.ok,T.all,λb q F z c Z=>?_,λb q f F z e Y B=>?_⟩
 .obtain⟨H,v,I⟩:=T.ok.up b q F z;exact(hU T.ok H).mp<|(T.eq b q F z c).mpr λp e J U=>(hU T.ok U).mpr<|Z p e J
 .obtain⟨H,v,I⟩:=T.ok.up b q F z;have hs:Chain (mix rank (λ_=>none) Q<|rank b) q q:= .self (y:=v) (by rw[ci H];exact I)
  exact(hU T.ok B).mp<|(T.eq b q F z q).mp hs f e Y B
def go(upd:(Nat->Option Nat)->Nat->Nat):(Nat->Option Nat)->List Nat->Nat->Option Nat
 |N,[]=>N
 |N,b::bs=>go upd (put N b<|upd N b) bs
variable{upd:(Nat->Option Nat)->Nat->Nat}
theorem f_:∀{bs:List Nat}{N:Nat->Option Nat}{x:Nat},x∉bs->go upd N bs x=N x
 |[],_,_,_=>rfl
 |b::bs,N,x,h=>by
  have c:x≠b:=λz=>by subst z;exact h mem_cons_self
  rw[go,f_<|λz=>h<|mem_cons_of_mem _ z,fU c]
theorem i7:∀{l1 l2:List Nat}{N:Nat->Option Nat},go upd N (l1++l2)=go upd (go upd N l1) l2
 |[],_,_=>rfl
 |b::l1,l2,N=>by rw[cons_append,go,go,i7]
theorem vN(nd:(l1++b::l2).Nodup)(h1:∀x∈l1,rank b<rank x)(h2:∀x∈l2,rank x<rank b):go upd P l1=mix rank P (go upd P<|l1++b::l2) (rank b):=by
 funext x;rw[nodup_append] at nd;by_cases e:x∈l1
 .have c:x∉b::l2:=λz=>nd.2.2 x e x z rfl;rw[ci<|h1 x e,i7,f_ c]
 .rw[f_ e];by_cases e2:x∈b::l2
  .have:¬rank b<rank x:=by
    rcases mem_cons.mp e2 with rfl|e2
    .omega
    .have:=h2 x e2;omega
   rw[dh this]
  .have c:x∉l1++b::l2:=λz=>(mem_append.mp z).elim e e2;by_cases k:rank b<rank x
   .rw[ci k,f_ c]
   .rw[dh k]
theorem zj(nd:(l1++b::l2).Nodup):go upd P (l1++b::l2) b=some (upd (go upd P l1) b):=by have h:=(nodup_append.mp nd).2.1;rw[i7,go,f_ (nodup_cons.mp h).1,fb]
structure Upd(E:Nat->Nat->Prop)(rank:Nat->Nat)(pre:Nat->List Nat)(upd:(Nat->Option Nat)->Nat->Nat):Prop where
 lead:∀b p,p∈pre b↔E p b/\bE E p
 par:∀b,b≠0->bE E b->∃f,E f b/\bE E f/\rank b<rank f
 met:∀N b,Ok E rank N->b≠0->bE E b->(∃f∈pre b,∃y,N f=some y)->(∃y,N (upd N b)=some y)/\∀c,Chain N (upd N b) c↔∀p∈pre b,(∃y,N p=some y)->Chain N p c
variable{pre:Nat->List Nat}
theorem lM(R:Rk E rank)(U:Upd E rank pre upd):∀{l l2:List Nat}{N:Nat->Option Nat},Ok E rank N->(l++l2).Pairwise (λx y=>rank y<rank x)->(∀x∈l,bE E x/\x≠0)->(∀x,bE E x->x∈l++l2∨∃y,N x=some y)->
  Ok E rank (go upd N l)/\∀x,bE E x->x∈l2∨∃y,go upd N l x=some y
 |[],_,_,K,_,_,A=>⟨K,A⟩
 |b::l,l2,N,K,hs,h,A=>by
  obtain⟨I,H⟩:=h b mem_cons_self;obtain⟨f,e,Z,hl⟩:=U.par b H I;have hs':=pairwise_cons.mp hs
  have Y:∃y,N f=some y:=by
   rcases A f Z with z|z
   .rcases mem_cons.mp z with z|z
    .subst z;omega
    .have:=hs'.1 f z;omega
   .exact z
  have J:=(U.lead b f).mpr ⟨e,Z⟩;obtain⟨m1,m2⟩:=U.met N b K H I ⟨f,J,Y⟩;have key:∀{p},p∈(pre b).filter (λp=>(N p).isSome)↔p∈pre b/\∃y,N p=some y:=λ{p}=>by rw[mem_filter,isSome_iff_exists]
  have K':=(Ok.put R K (ps:=(pre b).filter λp=>(N p).isSome) H I (key.mpr ⟨J,Y⟩) hl (λp B=>⟨((U.lead b p).mp (key.mp B).1).1,(key.mp B).2⟩) m1 λc=>(m2 c).trans ⟨λh p B=>h p (key.mp B).1 (key.mp B).2,λh p B hd=>h p<|key.mpr ⟨B,hd⟩⟩).1
  have A':∀x,bE E x->x∈l++l2∨∃y,put N b (upd N b) x=some y:=λx F=>by
   by_cases z:x=b
   .subst z;exact .inr ⟨_,fb⟩
   .rw[fU z];rcases A x F with w|w
    .rcases mem_cons.mp w with w|w
     .exact absurd w z
     .exact .inl w
    .exact .inr w
  exact lM R U (l:=l) K' hs'.2 (λx F=>h x<|mem_cons_of_mem _ F) A'
theorem parts{bs:List Nat}(hs:bs.Pairwise λx y=>rank y<rank x)(e:bs=l1++b::l2):(l1++b::l2).Nodup/\(∀x∈l1,rank b<rank x)/\∀x∈l2,rank x<rank b:=by
 have nd:bs.Nodup:=hs.imp λh=>by intro z;subst z;omega
 rw[e] at nd hs;rw[List.pairwise_append] at hs;exact⟨nd,λx c=>hs.2.2 x c b mem_cons_self,λx c=>(pairwise_cons.mp hs.2.1).1 x c⟩
theorem qp(R:Rk E rank)(F:Fit E rank P)(U:Upd E rank pre upd){bs:List Nat}(hs:bs.Pairwise λx y=>rank y<rank x)(J:∀x,x∈bs↔bE E x/\x≠0):Turn E rank P (go upd P bs):=by
 obtain⟨K,A⟩:=lM R U (l:=bs) (l2:=[]) F.ok (by simpa using hs) (λx B=>(J x).mp B) λx B=>.inr<|F.all x B
 have A:∀x,bE E x->∃y,go upd P bs x=some y:=λx B=>(A x B).resolve_left (λz=>nomatch z);refine⟨K,A,λb q Y H c=>?_⟩;obtain⟨l1,l2,e⟩:=List.append_of_mem ((J b).mpr ⟨K.dom b q H,Y⟩);obtain⟨nd,h1,h2⟩:=parts hs e;have cb:=K.dom b q H;rw[e,zj nd] at H;cases H;rw[e,<-vN nd h1 h2];obtain⟨K1,_⟩:=lM R U (l:=l1) (l2:=b::l2) F.ok (by rw[<-e];exact hs) (λx B=>(J x).mp (by rw[e];exact aR _ B)) λx B=>.inr<|F.all x B
 have A1:∀x,bE E x->∃y,go upd P l1 x=some y:=λx B=>by
  by_cases z:x∈l1
  .obtain⟨y,Z⟩:=A x B;rw[e,i7,f_<|λw=>(nodup_append.mp nd).2.2 x z x w rfl] at Z;exact⟨y,Z⟩
  .rw[f_ z];exact F.all x B
 obtain⟨f,ef,cf,_⟩:=U.par b Y cb;rw[(U.met _ b K1 Y cb ⟨f,(U.lead b f).mpr ⟨ef,cf⟩,A1 f cf⟩).2 c];exact⟨λh p I cp=>h p ((U.lead b p).mpr ⟨I,cp⟩)<|A1 p cp,λh p I _=>h p ((U.lead b p).mp I).1 ((U.lead b p).mp I).2⟩
noncomputable def fX:Nat->Option Nat:=λx=>if x=0 then some 0 else none
theorem mx:Ok E rank fX:=by
 have h:∀x y,fX x=some y->x=0:=λx y h=>by
  by_cases e:x=0
  .exact e
  .simp[fX,e] at h
 exact⟨rfl,λx y c=>by cases h x y c;exact⟨[0],.nil⟩,λx y z c=>absurd (h x y c) z,λx y d z c=>absurd (h x y c) z⟩
theorem nM(R:Rk E rank)(U:Upd E rank pre upd){bs:List Nat}(hs:bs.Pairwise λx y=>rank y<rank x)(I:∀x,x∈bs↔bE E x/\x≠0):Turn1 E rank (go upd fX bs):=by
 have A0:∀x,bE E x->x∈bs∨∃y,fX x=some y:=λx B=>by
  by_cases z:x=0
  .subst z;exact .inr ⟨0,rfl⟩
  .exact .inl<|(I x).mpr ⟨B,z⟩
 obtain⟨K,A⟩:=lM R U (l:=bs) (l2:=[]) (mx (E:=E) (rank:=rank)) (by simpa using hs) (λx B=>(I x).mp B) (by simpa using A0)
 have A:∀x,bE E x->∃y,go upd fX bs x=some y:=λx B=>(A x B).resolve_left (λz=>nomatch z);refine⟨K,A,λb q J H c=>?_⟩;obtain⟨l1,l2,e⟩:=List.append_of_mem<|(I b).mpr ⟨K.dom b q H,J⟩;obtain⟨nd,h1,h2⟩:=parts hs e;have cb:=K.dom b q H;obtain⟨f,ef,Y,Z⟩:=U.par b J cb;have h0:rank b<rank 0:=ao Z<|R.top f Y
 have em:mix rank (λ_=>none) (go upd fX bs) (rank b)=go upd fX l1:=by
  rw[e,vN (P:=fX) nd h1 h2,<-e];funext x;by_cases k:rank b<rank x
  .rw[ci k,ci k]
  .rw[dh k,dh k];have:x≠0:=λz=>by subst z;exact k h0
   simp[fX,this]
 have set:∀x,bE E x->((∃y,go upd fX l1 x=some y)↔rank b<rank x):=λx B=>by
  rw[<-em];by_cases k:rank b<rank x
  .rw[ci k];exact⟨λ_=>k,λ_=>A x B⟩
  .rw[dh k];exact⟨(λ⟨y,h⟩=>nomatch h),λh=>absurd h k⟩
 obtain⟨K1,_⟩:=lM R U (l:=l1) (l2:=b::l2) (mx (E:=E) (rank:=rank)) (by rw[<-e];exact hs) (λx B=>(I x).mp (by rw[e];exact aR _ B)) (by rw[<-e];exact A0)
 rw[e,zj nd] at H;cases H;rw[em,(U.met _ b K1 J cb ⟨f,(U.lead b f).mpr ⟨ef,Y⟩,(set f Y).mpr Z⟩).2 c];exact⟨λh p F cp hr=>h p ((U.lead b p).mpr ⟨F,cp⟩)<|(set p cp).mpr hr,λh p F hd=>h p ((U.lead b p).mp F).1 ((U.lead b p).mp F).2<|(set p ((U.lead b p).mp F).2).mp hd⟩
end
end Dom
namespace PySem.SeqAt
open AutoSeq1 (wpAny_loadPart')
open MeetsSeq
section
end
end PySem.SeqAt
namespace L2
open PySem PySem.Spec PyProof.Rows
variable{scope:Scope}{pos:Pos}{ifs:List Expr}{elt iter tg:Expr}{s:Shared}{y:Str}{X:Cx}{c n:Addr}{pins:List (Addr×Obj)}{fp:List Addr}{xs:List Str}
noncomputable def fI(cells:List (Str×Addr)):List (Str×NameKind)->List (Str×Addr)->List (Str×Addr)
 |[],cs=>cs
 |(n,k)::r,cs=>if k== .free then fI cells r ((n,(cells.lookup n).getD 0)::cs) else fI cells r cs
theorem iJ{env:Env}:∀(names:List (Str×NameKind))(cs:List (Str×Addr)),(∀x∈names,x.2=.free->∃c,env.cells.lookup x.1=some c)->
  (forIn names cs λ(x:Str×NameKind)(r:List (Str×Addr))=>(do
   if x.2==NameKind.free then
    let a <-cellOf env x.1
    pure (ForInStep.yield<|(x.1,a)::r)
   else pure (ForInStep.yield r):Sem (ForInStep<|List<|Str×Addr)))=(pure (fI env.cells names cs):Sem (List<|Str×Addr))
 |[],cs,_=>rfl
 |(n,k)::r,cs,h=>by
  have B:=λcs=>iJ (env:=env) r cs λx F=>h x<|mem_cons_of_mem _ F;rw[List.forIn_cons];cases hk:(k==NameKind.free) with
  |true=>
   obtain⟨c,H⟩:=h (n,k) mem_cons_self (by simpa using hk)
   have z:env.cells.lookup n=some c:=H;simp only[fI,hk,if_true,cellOf,z,getD_some,pure_bind];exact B _
  |false=>simp only[fI,hk,false_eq_true,if_false,pure_bind];exact B _
theorem jy{env:Env}(h:∀x∈scope.names,x.2=.free->∃c,env.cells.lookup x.1=some c):closureFor scope env=pure (fI env.cells scope.names []):=by rw[<-iJ scope.names [] h];unfold closureFor;simp only[bind_pure]
theorem mW{cells:List (Str×Addr)}{y:Str}{c:Addr}:∀{names:List (Str×NameKind)}{cs:List (Str×Addr)},(fI cells names cs).lookup y=some c->((y,NameKind.free)∈names/\c=(cells.lookup y).getD 0)∨cs.lookup y=some c
 |[],cs,h=>.inr h
 |(n,k)::r,cs,h=>by
  unfold fI at h;cases hk:(k==NameKind.free) with
  |true=>
   have z:k=.free:=by simpa using hk
   subst z;rw[if_pos (by rfl)] at h
   rcases mW h with⟨a,b⟩|q
   .exact .inl ⟨mem_cons_of_mem _ a,b⟩
   .cases hy:y==n with
    |true=>
     rw[lookup_cons,hy] at q;have:y=n:=by simpa using hy
     subst this;exact .inl ⟨mem_cons_self,(ak q).symm⟩
    |false=>rw[lookup_cons,hy] at q;exact .inr q
  |false=>
   rw[hk] at h;rcases mW (by simpa using h) with⟨a,b⟩|q
   .exact .inl ⟨mem_cons_of_mem _ a,b⟩
   .exact .inr q
theorem gB{cells:List (Str×Addr)}{y:Str}:∀{names:List (Str×NameKind)}{cs:List (Str×Addr)},(∀c,cs.lookup y=some c->c=(cells.lookup y).getD 0)->((y,NameKind.free)∈names∨cs.lookup y=some ((cells.lookup y).getD 0))->
  (fI cells names cs).lookup y=some ((cells.lookup y).getD 0)
 |[],cs,_,h=>by
  rcases h with h|h
  .simp at h
  .exact h
 |(n,k)::r,cs,hc,h=>by
  unfold fI;cases hk:(k==NameKind.free) with
  |true=>
   have z:k=.free:=by simpa using hk
   subst z;rw[if_pos (by rfl)]
   cases hy:y==n with
   |true=>
    have:y=n:=by simpa using hy
    subst this;refine gB (λc e=>?_)<|.inr ?_
    .rw[lookup_cons,hy] at e;exact(ak e).symm
    .rw[lookup_cons,hy]
   |false=>
    refine gB (λc e=>?_) ?_
    .rw[lookup_cons,hy] at e;exact hc c e
    .rcases h with h|h
     .rcases mem_cons.mp h with e|e
      .injection e with e1 _;rw[e1] at hy;simp at hy
      .exact .inl e
     .right;rw[lookup_cons,hy];exact h
  |false=>
   have h':(y,NameKind.free)∈r∨List.lookup y cs=some ((List.lookup y cells).getD 0):=by
    rcases h with h|h
    .rcases mem_cons.mp h with e|e
     .injection e with _ e2;rw[<-e2] at hk;simp at hk
     .exact .inl e
    .exact .inr h
   have q:=gB (names:=r) (cs:=cs) hc h';simpa using q
theorem bX{env:Env}{names:List (Str×NameKind)}{x:Str}{k:NameKind}:(names.map λ(n,k)=>if(k==NameKind.free&&env.scope.kind== .function&&env.kindOf n==some .cell) then(n,NameKind.cell) else(n,k)).lookup x=some k->
  names.lookup x=some k∨(k=.cell/\names.lookup x=some .free):=by
 induction names with
 |nil=>intro h;simp at h
 |cons p r ih=>
  obtain⟨n,c⟩:=p;intro h;have h:List.lookup x ((if(c==NameKind.free&&env.scope.kind== .function&&env.kindOf n==some .cell)=true then(n,NameKind.cell) else(n,c))::_)=some k:=h
  cases hx:x==n with
  |true=>
   by_cases hc:(c==NameKind.free&&env.scope.kind== .function&&env.kindOf n==some .cell)=true
   .rw[if_pos hc] at h;simp only[lookup_cons,hx] at h;cases h;refine .inr ⟨rfl,?_⟩;simp only[lookup_cons,hx];simp only[and_eq_true] at hc;have:c=.free:=by simpa using hc.1.1
    rw[this]
   .rw[if_neg hc] at h;simp only[lookup_cons,hx] at h ⊢;exact .inl h
  |false=>
   have h':List.lookup x (r.map λ(n,k)=>if(k==NameKind.free&&env.scope.kind== .function&&env.kindOf n==some .cell) then(n,NameKind.cell) else(n,k))=some k:=by
    by_cases hc:(c==NameKind.free&&env.scope.kind== .function&&env.kindOf n==some .cell)=true
    .rw[if_pos hc] at h;simpa only[lookup_cons,hx] using h
    .rw[if_neg hc] at h;simpa only[lookup_cons,hx] using h
   simp only[lookup_cons,hx];exact ih h'
theorem oR{prog:Program}{w:World}{A:Around}{R:Result->Shared->Prop}{target:Expr}{it acc:Value}{env:Env}(I:Nat->Shared->Prop)
  (turn:∀n s,I n s->wpAny (model prog w) A (pyNext it) (λr s₁=>match r with
   |none=>R (.ok .next) s₁
   |some v=>wpAny (model prog w) A (letOwnedTupleGo target it v) (λ_ s₁'=>wpAny (model prog w) A (assign target env v) (λ_ s₂=>
     wpAny (model prog w) A (forIn ifs true λc r=>if r=true then do let ok <-isTrue c env (eval c env);pure (ForInStep.yield ok) else pure<|ForInStep.yield r) (λok s₃=>
      if ok=true then wpAny (model prog w) A (eval elt env) (λx s₄=>
       wpAny (model prog w) A (call (.builtin "list.append") [acc,x]) (λ_ s₅=>∃m,m<n/\I m s₅) (notedBy (model prog w) A env λe s'=>R (.error e) s') s₄) (notedBy (model prog w) A env λe s'=>R (.error e) s') s₃
      else ∃m,m<n/\I m s₃) (notedBy (model prog w) A env λe s'=>R (.error e) s') s₂) (notedBy (model prog w) A env λe s'=>R (.error e) s') s₁') (notedBy (model prog w) A env λe s'=>R (.error e) s') s₁) (notedBy (model prog w) A env λe s'=>R (.error e) s') s)
  (n:Nat)(h:I n s):
  codeAny (model prog w) A (.compLoop (.ListComp elt [⟨target,iter,ifs,0⟩] scope pos) 0 it acc env) R s:=by
 refine codeAny_loop rfl I (λn s z=>?_) n h;show wpAny _ A ((compTurn (.ListComp elt [⟨target,iter,ifs,0⟩] scope pos) 0 it acc env).onRaise (λx=>do noteFrame x env;theTreesLotGoes x)) _ _ s
 refine wpAny_noted ?_;rw[compTurn_list];refine ae<|wpAny_standAt<|ae<|a9 (turn n s z) (λr s₁ h₁=>?_) λ_ _ h'=>h';cases r with
 |none=>exact ai h₁
 |some v=>
  refine ae<|a9 h₁ (λ_ s₁' h₁'=>?_) λ_ _ h'=>h';refine ae<|a9 h₁' (λ_ s₂ h₂=>ae<|a9 h₂ (λok s₃ h₃=>?_) λ_ _ h'=>h') λ_ _ h'=>h';cases ok with
  |false=>exact ai ⟨rfl,h₃⟩
  |true=>exact ae<|ae<|a9 h₃ (λx s₄ h₄=>ae<|a9 h₄ (λ_ s₅ h₅=>ai<|ai ⟨rfl,h₅⟩) λ_ _ h'=>h') λ_ _ h'=>h'
noncomputable def wR(z:Str):Str:=⟨#[46]++z.cps⟩
def pH(scope:Scope)(N:List Str):List Str:=N.map λz=>if scope.names.lookup z=some .local then wR z else z
theorem iw{env:Env}:∀{names:List (Str×NameKind)}{x:Str},names.lookup x=some .cell->
  (names.map λ(n,k)=>if(k==NameKind.free&&env.scope.kind== .function&&env.kindOf n==some .cell) then(n,NameKind.cell) else(n,k)).lookup x=some .cell
 |[],_,h=>by simp at h
 |(n,k)::r,x,h=>by
  have c:= @iw env r x;show List.lookup x ((if(k==NameKind.free&&env.scope.kind== .function&&env.kindOf n==some .cell)=true then(n,NameKind.cell) else(n,k))::_)=_
  cases hx:x==n with
  |true=>simp only[lookup_cons,hx] at h;cases h;simp[lookup_cons,hx]
  |false=>
   simp only[lookup_cons,hx] at h;by_cases hc:(k==NameKind.free&&env.scope.kind== .function&&env.kindOf n==some .cell)=true
   .rw[if_pos hc];simp only[lookup_cons,hx];exact c h
   .rw[if_neg hc];simp only[lookup_cons,hx];exact c h
noncomputable def qO(scope:Scope):List (Str×NameKind):=scope.names.filter λy=>decide<|y.2=.cell
def xZ(scope:Scope)(n:Addr):List (Str×Addr):=(qO scope).map λy=>(y.1,n)
theorem dM:∀(names:List (Str×NameKind))(n:Nat)(acc:List (Str×Addr))(h:Heap),cellsFrom n names acc=cellsFrom n (names.filter λy=>decide<|y.2=.cell) acc/\pushCells h names=pushCells h (names.filter λy=>decide<|y.2=.cell)
 |[],_,_,_=>⟨rfl,rfl⟩
 |(x,k)::r,n,acc,h=>by
  by_cases hk:k=.cell
  .subst hk;rw[filter_cons_of_pos (by simp)]
   exact⟨(dM r (n+1) ((x,n)::acc) h).1,(dM r n acc _).2⟩
  .rw[filter_cons_of_neg (by simpa using hk)]
   have z:(k==NameKind.cell)=false:=by simpa using hk
   obtain⟨a,b⟩:=dM r n acc h;have c:¬(k==NameKind.cell)=true:=by rw[z];decide
   exact⟨by rw[<-a];exact if_neg c,by rw[<-b];exact if_neg c⟩
theorem iA(h:(qO scope).length<=1):qO scope=[]∨∃x,qO scope=[(x,.cell)]:=by
 cases e:qO scope with
 |nil=>exact .inl rfl
 |cons p r=>
  obtain⟨x,k⟩:=p;rw[e] at h;cases r with
  |cons=>simp at h
  |nil=>
   have:(x,k)∈qO scope:=by rw[e];simp
   have c:k=.cell:=by simpa[qO] using(mem_filter.mp this).2
   exact .inr ⟨x,by rw[c]⟩
theorem jE:(y,NameKind.cell)∈scope.names↔(y,NameKind.cell)∈qO scope:=by simp[qO,mem_filter]
theorem v_{M:Model}{A:Around}{E:Value->Shared->Prop}{globals:Addr}{cl:List (Str×Addr)}{qual:Str}{outer:Env}{Q:Env->Shared->Prop}(h1:(qO scope).length<=1)
  (F:∀h₁,h₁.Ns s.heap.objs.size (λ_=>none)->(∀b o,s.heap.get? b=some o->h₁.get? b=some o)->(∀x,(x,NameKind.cell)∈scope.names->h₁.IsCell (s.heap.objs.size+1) none)->
   Q (newEnv scope s.heap.objs.size globals (xZ scope (s.heap.objs.size+1)++cl) qual none .none (some outer) builtinsNs) {s with heap:=h₁}):
  wpAny M A (newFunctionEnv scope globals cl [] qual none .none<|some outer) Q E s:=by
 simp only[newFunctionEnv,isSome_some,if_true];refine ae<|wpAny_alloc ?_;refine ae<|wpAny_layCells _ (λname kind cells=>by cases hkc:kind==NameKind.cell<;>simp[hkc]) _ _ _ _ ?_
 rw[show({s with heap:=s.heap.push {cls:= .type "dict",data:= .dict #[]}}:Shared).heap.objs.size=s.heap.objs.size+1 from Heap.size_push ..];obtain⟨I,H⟩:=dM scope.names (s.heap.objs.size+1) cl<|s.heap.push {cls:= .type "dict",data:= .dict #[]};show wpAny _ _ _ _ _ {s with heap:=pushCells (s.heap.push {cls:= .type "dict",data:= .dict #[]}) scope.names};rw[I,H];rw[List.forIn_nil];have q:=F (pushCells (s.heap.push {cls:= .type "dict",data:= .dict #[]})<|qO scope) ((Heap.Ns.new s.heap<|.type "dict").keeps<|pushCells_keeps _ _) (λb o e=>pushCells_keeps _ _ b o<|ah _ e) ?_
 .refine ae (ai<|ai ?_)
  have:xZ scope (s.heap.objs.size+1)++cl=cellsFrom (s.heap.objs.size+1) (qO scope) cl:=by unfold xZ;rcases iA h1 with z|⟨x,z⟩<;>rw[z]<;>rfl
  rw[this] at q;exact q
 .intro x c;rw[jE] at c;rcases iA h1 with z|⟨y,z⟩
  .rw[z] at c;cases c
  .rw[z]
   exact⟨{cls:= .type "cell",data:= .cell none},by
    have B:∀h:Heap,pushCells h [(y,NameKind.cell)]=h.push {cls:= .type "cell",data:= .cell none}:=λh=>by simp[pushCells]
    rw[B,show s.heap.objs.size+1=(s.heap.push {cls:= .type "dict",data:= .dict #[]}).objs.size from(Heap.size_push ..).symm];exact aC _ rfl,rfl⟩
def bz(X:Cx)(xs:List Str)(scope:Scope)(fp:List Addr)(s:Shared)(H:Hp):Cx where
 prog:=X.prog
 w:=X.w
 K:=X.K
 mg:=X.mg
 base:=X.base
 A:=X.A
 N:=xs++pH scope X.N
 s₀:=s
 H₀:=H
 env:=compEnvC scope (xZ scope (s.heap.objs.size+1)++fI X.env.cells scope.names []) s.heap.objs.size X.env
 outer:=X.stack
 stack:=X.stack
 ex:=fp
 calm:=X.calm
 fn:=λy=>decide<|scope.names.lookup y=some .cell
 pn:=X.pn
 xe:=λ_ _=>False
structure CompScope(X:Cx)(scope:Scope):Prop where
 kind:scope.kind=.function
 one:(qO scope).length<=1
 locs:∀y∈scope.names,y.2=.local->scope.names.lookup y.1=some .local
 frees:∀y∈scope.names,y.2=.free->X.env.kindOf y.1=some .cell∨X.env.kindOf y.1=some .free
 apart:∀z∈X.N,(scope.names.lookup z=some .local->scope.names.lookup (wR z)=none)/\(z,NameKind.cell)∉scope.names
theorem CompScope.cells(C:CompScope X scope)(ok:X.Ok):∀y∈scope.names,y.2=.free->∃c,X.env.cells.lookup y.1=some c:=λy z B=>ok.has y.1<|C.frees y z B
theorem CompScope.cell_of(C:CompScope X scope)(ok:X.Ok)(h:(fI X.env.cells scope.names []).lookup y=some c):(y,NameKind.free)∈scope.names/\X.env.cells.lookup y=some c:=by
 rcases mW h with⟨a,b⟩|q
 .obtain⟨c',e⟩:=C.cells ok _ a rfl;have e':X.env.cells.lookup y=some c':=e;rw[e',getD_some] at b;exact⟨a,by rw[b];exact e'⟩
 .simp at q
theorem CompScope.cellx(C:CompScope X scope)(ok:X.Ok)(h:(xZ scope n++fI X.env.cells scope.names []).lookup y=some c):((y,NameKind.cell)∈scope.names/\c=n)∨((y,NameKind.cell)∉scope.names/\X.env.cells.lookup y=some c):=by
 rw[jE];unfold xZ at h;rcases iA C.one with z|⟨x,z⟩
 .rw[z] at h ⊢;exact .inr ⟨by simp,(C.cell_of ok h).2⟩
 .rw[z] at h ⊢;have h:List.lookup y ((x,n)::fI X.env.cells scope.names [])=some c:=h;rw[lookup_cons] at h;cases hy:y==x with
  |true=>
   rw[hy] at h;cases h;have:y=x:=by simpa using hy
   exact .inl ⟨by simp[this],rfl⟩
  |false=>
   rw[hy] at h;have:y≠x:=λe=>by simp[e] at hy
   exact .inr ⟨by simpa using this,(C.cell_of ok h).2⟩
theorem CompScope.lookx(C:CompScope X scope):(∀{c:Addr},(y,NameKind.cell)∉scope.names->(fI X.env.cells scope.names []).lookup y=some c->(xZ scope n++fI X.env.cells scope.names []).lookup y=some c)/\((y,NameKind.cell)∈scope.names->(xZ scope n++fI X.env.cells scope.names []).lookup y=some n):=by
 rw[jE];unfold xZ;rcases iA C.one with z|⟨x,z⟩
 .rw[z];exact⟨λ_ h=>h,λh=>by simp at h⟩
 .rw[z];refine⟨λh1 h2=>?_,λh=>?_⟩
  .have:y≠x:=λe=>h1 (by simp[e])
   have B:(y==x)=false:=by simpa using this
   show List.lookup y ((x,n)::fI X.env.cells scope.names [])=_;rw[lookup_cons,B];exact h2
  .have:y=x:=by simpa using h
   subst this;show List.lookup y ((y,n)::fI X.env.cells scope.names [])=_;simp[lookup_cons]
theorem yJ{W:St}{H:Hp}(I:Inv X pins W H s)(C:CompScope X scope)(U:∀b∈fp,iP X pins H b)(ho:∀b∈fp,∃o,s.heap.get? b=some o):
  (bz X xs scope fp s H).Ok where
 mod:=I.ok.mod
 kind:=C.kind
 glob:=I.ok.glob
 blt:=I.ok.blt
 above:=aa _
 inj:=λy z c h1 h2=>by
  rcases C.cellx I.ok h1 with⟨a1,e1⟩|⟨_,q1⟩<;>rcases C.cellx I.ok h2 with⟨a2,e2⟩|⟨_,q2⟩
  .rw[jE] at a1 a2;rcases iA C.one with zz|⟨x,zz⟩
   .rw[zz] at a1;cases a1
   .rw[zz] at a1 a2;have b1:y=x:=by simpa using a1
    have b2:z=x:=by simpa using a2
    rw[b1,b2]
  .obtain⟨v,q⟩:=I.cell z c q2;exact absurd q.lt (by rw[e1];exact not_lt.mpr<|le_succ _)
  .obtain⟨v,q⟩:=I.cell y c q1;exact absurd q.lt (by rw[e2];exact not_lt.mpr<|le_succ _)
  .exact I.ok.inj y z c q1 q2
 has:=λy B=>by
  have B:(relabel scope X.env).names.lookup y=some .cell∨(relabel scope X.env).names.lookup y=some .free:=B;by_cases ho:(y,NameKind.cell)∈scope.names
  .exact⟨_,C.lookx.2 ho⟩
  have J:scope.names.lookup y=some .free:=by
   rcases B with B|B
   .rcases bX B with q|⟨_,q⟩
    .exact absurd (aL q) ho
    .exact q
   .rcases bX B with q|⟨z,_⟩
    .exact q
    .cases z
  exact⟨_,C.lookx.1 ho<|gB (λc e=>by simp at e)<|.inl<|aL J⟩
 cab:=λy c h hc=>by
  have h:scope.names.lookup y=some .cell:=of_decide_eq_true h;rcases C.cellx I.ok hc with⟨_,e1⟩|⟨z,_⟩
  .rw[e1];exact le_succ _
  .exact absurd (aL h) z
 hd:=I.ok.hd
 frames:=I.ok.frames
 stk:= .inl rfl
 exf:=λb F=>by
  obtain⟨o,e⟩:=ho b F;obtain⟨f0,f1,f2,f3,Y,Z⟩:=U b F;refine⟨aw<|au e,λy c h=>?_⟩;rcases C.cellx I.ok h with⟨_,e1⟩|⟨_,q⟩
  .rw[e1];exact bd<|lt_succ_of_lt<|au e
  .exact Y y c q
 bs:=I.bs
 bsz:=aM I.ok.bsz I.sz
 noex:=λb o e F=>by
  obtain⟨f0,f1,f2,f3,Y,Z⟩:=U b F;rcases f3 with z|z
  .exact I.ok.noex b o e z
  .exact absurd (ao (au (I.ok.bs b o e).1) z)<|a8 _
 exfs:=λb F hs=>by
  obtain⟨f0,f1,f2,f3,Y,Z⟩:=U b F;rcases mem_cons.mp (I.stkSub b hs) with z|z
  .exact f1 z
  .exact f2 z
 funs:=I.stack
 frf:=I.stkFree
theorem ww{W:St}{H:Hp}{h':Heap}{tk:Nat}{m:Str->Option Value}(I:Inv X pins W H s)(C:CompScope X scope)(hf:∀b∈fp,iP X pins H b)(ho:∀b∈fp,∃o,s.heap.get? b=some o)
  (hn:h'.Ns s.heap.objs.size m)(k:∀b o,s.heap.get? b=some o->h'.get? b=some o)(hcl:∀x,(x,NameKind.cell)∈scope.names->h'.IsCell (s.heap.objs.size+1) none):Inv (bz X xs scope fp s H) pins (replicate xs.length none++W) H {s with heap:=h',toks:=tk}:=by
 refine⟨yJ I C hf ho,rfl,I.bare,Un.kept k,⟨m,hn,λi y v h1 h2 Z=>?_⟩,λy c h=>?_,I.hok.fresh<|aa _,λy c h=>?_,λp hp=>?_,I.hok.kept k,?_⟩
 .have h1:(xs++pH scope X.N)[i]? =some y:=h1;by_cases hi:i<xs.length
  .rw[aB (by simpa using hi),List.getElem?_replicate,if_pos hi] at h2
   cases h2
  .rw[az<|not_lt.mp hi] at h1;rw[az (by simpa using hi),length_replicate] at h2
   unfold pH at h1;rw[aj] at h1;obtain⟨y0,h1',F⟩:=map_eq_some_iff.mp h1;have Z:(relabel scope X.env).names.lookup y=some .local∨(relabel scope X.env).names.lookup y=some .cell∨(relabel scope X.env).names.lookup y=some .free:=Z
   have J:∃kd,scope.names.lookup y=some kd:=by rcases Z with q|q|q<;>rcases bX q with q|⟨_,q⟩<;>exact⟨_,q⟩
   obtain⟨ap1,ap2⟩:=C.apart y0<|ag h1'
   have nl:¬scope.names.lookup y0=some .local:=λhl=>by rw[if_pos hl] at F;obtain⟨kd,q⟩:=J;rw[<-F,ap1 hl] at q;cases q
   rw[if_neg nl] at F;subst F
   have Y:scope.names.lookup y0=some .free:=by
    rcases Z with q|q|q
    .rcases bX q with q|⟨z,_⟩
     .exact absurd q nl
     .cases z
    .rcases bX q with q|⟨_,q⟩
     .exact absurd (aL q) ap2
     .exact q
    .rcases bX q with q|⟨z,_⟩
     .exact q
     .cases z
   have B:=aL Y;obtain⟨m0,hn0,hl0⟩:=I.loc
   have U:DZ X.env.scope y0:=by
    rcases C.frees _ B rfl with q|q
    .exact .inr<|.inl q
    .exact .inr<|.inr q
   obtain⟨u,r,l⟩:=hl0 _ y0 v h1' h2 U;refine⟨u,r,.inr ⟨?_,?_⟩⟩
   .rcases Z with q|q|q
    .rcases bX q with q|⟨z,_⟩
     .rw[Y] at q;cases q
     .cases z
    .exact .inl q
    .exact .inr q
   .rcases l with⟨lk,_⟩|⟨_,c,hc,hcell⟩
    .rcases C.frees _ B rfl with q|q
     .rw[lk] at q;cases q
     .rw[lk] at q;cases q
    .refine⟨c,C.lookx.1 ap2 ?_,?_⟩
     .have q:=gB (cells:=X.env.cells) (y:=y0) (names:=scope.names) (cs:=[]) (λc e=>by simp at e) (.inl B)
      rw[hc,getD_some] at q;exact q
     .obtain⟨o,e,d⟩:=hcell;exact⟨o,k _ _ e,d⟩
 .rcases C.cellx I.ok h with⟨a,rfl⟩|⟨_,q⟩
  .exact⟨none,hcl _ a⟩
  .obtain⟨v,o,e,d⟩:=I.cell y c q;exact⟨v,o,k _ _ e,d⟩
 .rcases C.cellx I.ok h with⟨a,rfl⟩|⟨_,q⟩
  .exact I.hok.fresh<|le_succ _
  .exact I.freeC y c q
 .obtain⟨e,n,ne,nf,d⟩:=I.pin p hp;refine⟨k _ _ e,n,aw<|au e,λz=>?_,d⟩;rcases mem_cons.mp (I.stkSub _ z) with q|q
  .exact ne q
  .exact nf q
 .show(replicate xs.length none++W).length=(xs++pH scope X.N).length;rw[aE,aE,length_replicate,I.len,pH,length_map]
def B8:TT:=λ_ H Q=>Q true H
def zv(X:Cx)(ifs:List Expr)(t:TT):Prop:=
 ∀(pins:List (Addr×Obj))(s:Shared)(W:St)(H:Hp)(Q:Bool->Hp->Prop),Inv X pins W H s->t W H Q->
  wpAny (model X.prog X.w) X.A (forIn ifs true λc r=>if r=true then do let ok <-isTrue c X.env (eval c X.env);pure (ForInStep.yield ok) else pure<|ForInStep.yield r) (TP X pins W Q) X.xe s
theorem qG:zv X [] B8:=λ_ _ _ H _ I h=>wpAny_tests_nil ⟨H,I,h⟩
theorem qF{c:Expr}{t:TT}(h:PT X c t):zv X [c] t:=λpins s W H Q I q=>wpAny_tests_one<|h pins s W H Q I q
def qu(k:Nat)(wi:TI)(g:TG)(tc:TT)(te:TE):TE:=λW H Q=>wi W H λJ H1=>∀D,H1 D=none->∃Ww:Nat->Nat->List V->Hp->Prop,(∃m,Ww 0 m []<|upd H1 D<|.lst [])/\∀i m ys H2,Ww i m ys H2->
 (J.stop i H2/\Q (.ref D) H2)∨(J.go i H2/\∃N:List V->Hp->Prop,(∀ys' H',N ys' H'->∃m',m'<m/\Ww (i+1) m' ys' H')/\
  ∀x H',J.yld i H2 x H'->∀os:List (Option V),os.length=k->g x (os++W) H' λW2 H3=>(∃ps:List (Option V),ps.length=k/\W2=ps++W)/\tc W2 H3 λb H5=>if b=true then te W2 H5 λy H4=>H4 D=some (.lst ys)/\ys.length<sizeLine/\N (ys++[y]) (upd H4 D<|.lst<|ys++[y]) else N ys H5)
theorem oQ{W W':St}{H H':Hp}{s':Shared}{h':Heap}(I:Inv X pins W H s)(Y:∀b∈fp,iP X pins H b)(J:Inv (bz X xs scope fp s H) pins W' H' s')
  (U:Heap.SameBut s.heap.objs.size s'.heap h'):Inv X pins W H' {s' with heap:=h'}:=by
 have hC:H' s.heap.objs.size=none:=J.free;have ne:∀b o,s.heap.get? b=some o->b≠s.heap.objs.size:=λb o e=>aw<|au e
 have u:Un (tF X.stack) fp H H' s.heap h':=
  ⟨λb o e n B F=>(U.2 b<|ne b o e).trans<|J.base.keep b o e n B F,λb o e n B F=>by
    obtain⟨sl,q⟩:=J.base.slot b o e n B F;exact⟨sl,(U.2 b<|ne b o e).trans q⟩,J.base.free,λb o e F=>by
    obtain⟨o',q⟩:=J.base.there b o e F;exact⟨o',(U.2 b<|ne b o e).trans q⟩,J.base.tups,J.base.frzs,J.base.tbls⟩
 have Z:ij X.prog X.w H' h':=λb ob e=>by
  refine(J.hok b ob e).stay (λc w' hc q=>(U.2 c ?_).trans q) (λ_ q=>q) λ_ _ q=>q;intro z;rcases hc with y|y
  .rw[z] at y;rw[<-y,hC] at e;cases e
  .rw[z,hC] at y;cases y
 exact I.call' (s':={s' with heap:=h'}) J.os u Z J.bare λb B=>⟨(Y b B).2.2.2.1,(Y b B).2.1,(Y b B).2.2.2.2.1,(Y b B).2.2.2.2.2⟩
theorem lQ{wi:TI}{g:TG}{tc:TT}{te:TE}(hc:X.calm=true)(C:CompScope X scope)
  (hi:PI X tg iter wi)(hg:∀fp s H,PG (bz X xs scope fp s H) tg g)(ht:∀fp s H,zv (bz X xs scope fp s H) ifs tc)(he:∀fp s H,PE (bz X xs scope fp s H) elt te)
  (hs:∀x,foldedSetIterable iter X.env x=pure x){W:St}{H:Hp}{Q:VK}(I:Inv X pins W H s)(h:qu xs.length wi g tc te W H Q)
  {use:Option (Value->Sem Unit)}{QQ:Value->Shared->Prop}{ppos:Pos}
  (fin:∀{fp:List Addr}{F s5:Shared}{Y H4:Hp}{D:Addr}{os:List (Option V)},Inv X pins W Y F->(∀b∈fp,iP X pins Y b)->Inv (bz X xs scope fp F Y) pins (os++W) H4 s5->Q (.ref D) H4->compPost (model X.prog X.w) X.A X.xe use QQ (.ref D) F.heap.objs.size (.ok .next) s5):
  wpAny (model X.prog X.w) X.A (comprehension (.ListComp elt [⟨tg,iter,ifs,0⟩] scope pos) scope X.env ppos (newList []) false (eval iter X.env) use) QQ X.xe s:=by
 refine wpAny_comprehension_free rfl hs (jy<|C.cells I.ok) C.kind C.locs<|bZ (hi pins s W H _ I h) λv s1 h1=>bZ h1 λitv B h2=>?_;obtain⟨it,fp,tn,J,H2,e,I2,T,st2,f2,R⟩:=h2;subst e;have hD:H2 B.heap.objs.size=none:=I2.hok.fresh<|aa _;obtain⟨Ww,⟨m0,w0⟩,turn⟩:=R _ hD;refine wpAny_newObj_type<|v_ C.one λh₁ hns₁ old hcl=>?_;dsimp only at hns₁ old hcl ⊢
 have I3:Inv X pins W (upd H2 B.heap.objs.size<|.lst []) {B with heap:=B.heap.push {cls:= .type "list",dict:=none,data:= .seq ([]:List Value).toArray}}:=
  I2.laid (t':=B.toks) (o:= .lst []) (λb ob q=>ah _ q) (aa _) ⟨zero_le _,[],0,.nil,aC _ rfl⟩
 have f3:∀b∈fp,iP X pins (upd H2 B.heap.objs.size<|.lst []) b:=λb U=>by
  obtain⟨o,e,_⟩:=T.obj _ _ st2 b U;obtain⟨g0,g⟩:=f2 b U;exact⟨by rw[aI<|aw<|au e];exact g0,g⟩
 have o3:∀b∈fp,∃o,(B.heap.push {cls:= .type "list",dict:=none,data:= .seq ([]:List Value).toArray}).get? b=some o:=λb U=>by obtain⟨o,e,_⟩:=T.obj _ _ st2 b U;exact⟨o,ah _ e⟩
 have K0:=ww (xs:=xs) (scope:=scope) (fp:=fp) (h':=h₁) (tk:=B.toks) I3 C f3 o3 hns₁ old hcl;have st3:tn 0 h₁:=T.keep _ _ _ st2 λb _ o e=>old b o<|ah _ e;generalize hs3:({B with heap:=B.heap.push {cls:= .type "list",dict:=none,data:= .seq ([]:List Value).toArray}}:Shared)=F at I3 K0;have es3:B.heap.push {cls:= .type "list",dict:=none,data:= .seq ([]:List Value).toArray}=F.heap:=by rw[<-hs3]
 generalize hH3:upd H2 B.heap.objs.size (.lst [])=Y at I3 K0 f3 w0
 have stat:∀{H':Hp},(∀b∈fp,H' b=none)->∀b∈fp,iP (bz X xs scope fp F Y) pins H' b:=λ{H'} hn b U=>by
  obtain⟨o,e⟩:=o3 b U;rw[es3] at e;obtain⟨g0,g1,g2,g3,g4,g5⟩:=f3 b U;refine⟨hn b U,aw<|au e,λz=>?_,.inl U,λy c h=>?_,g5⟩
  .rcases mem_cons.mp (I3.stkSub _ z) with q|q
   .exact g1 q
   .exact g2 q
  .rcases C.cellx I.ok h with⟨_,e1⟩|⟨_,q⟩
   .rw[e1];exact bd<|lt_succ_of_lt<|au e
   .exact g4 y c q
 have loop:codeAny (model X.prog X.w) X.A (.compLoop (.ListComp elt [⟨tg,iter,ifs,0⟩] scope pos) 0 (.ref it) (.ref B.heap.objs.size) (bz X xs scope fp F Y).env)
   (compPost (model X.prog X.w) X.A X.xe use QQ (Value.ref B.heap.objs.size) F.heap.objs.size) {F with heap:=h₁,toks:=B.toks}:=by
  refine oR (λn s'=>∃i os ys H',os.length=xs.length/\Inv (bz X xs scope fp F Y) pins (os++W) H' s'/\tn i s'.heap/\(∀b∈fp,H' b=none)/\Ww i n ys H') ?_ m0 ⟨0,replicate xs.length none,[],Y,length_replicate ..,K0,st3,λb U=>(f3 b U).1,w0⟩;rintro n s4 ⟨i,os,ys,H4,hos,I4,st4,fr4,w4⟩;rcases turn i n ys H4 w4 with⟨stop,qn⟩|⟨go,N,hNN,step⟩
  .refine bZ (T.done (bz X xs scope fp F Y) rfl rfl rfl hc i pins s4 (os++W) H4 _ I4 (stat fr4) st4 stop) λr s5 ⟨hr,I5⟩=>?_;subst hr;exact fin I3 f3 I5 qn
  .refine bZ (T.item (bz X xs scope fp F Y) rfl rfl rfl hc i pins s4 (os++W) H4 _ I4 (stat fr4) st4 go) λr s5 hp=>?_;obtain⟨u,hr,h5⟩:=hp;subst hr;refine bZ h5 λ_ s6 hp=>?_;obtain⟨yv,H6,I6,r6,y6,Z,fr6⟩:=hp;have I6':=I6.pinned (stat fr6) (T.obj _ _ Z)
   have keepS:∀{qs:List (Option V)}{H':Hp}{s':Shared},Inv (bz X xs scope fp F Y) (pins++j4 fp s6.heap) (qs++W) H' s'->tn (i+1) s'.heap/\∀b∈fp,H' b=none:=λ{qs H' s'} I'=>by refine⟨T.keep _ _ _ Z λb U o e=>(I'.pin (b,o)<|aS _<|aS _<|fq U e).1,λb U=>?_⟩;obtain⟨o,e,d⟩:=T.obj _ _ Z b U;exact(I'.pin (b,o)<|aS _<|aS _<|fq U e).2.1
   refine a9 (hg fp F Y _ s6 (os++W) H6 yv u _ I6' r6<|step yv H6 y6 os hos) (λ_ s7 ⟨W7,H7,I7,⟨ps,hps,hW⟩,q7⟩=>?_) λ_ _ z=>False.elim z;subst hW;refine a9 (ht fp F Y _ s7 (ps++W) H7 _ I7 q7) (λbb s8 ⟨H8,I8,q8⟩=>?_) λ_ _ z=>False.elim z;cases bb with
   |false=>rw[if_neg aQ] at q8 ⊢;obtain⟨m',hm,w8⟩:=hNN ys H8 q8;obtain⟨a1,a2⟩:=keepS I8;exact⟨m',hm,i+1,ps,ys,H8,hps,I8.unpinned,a1,a2,w8⟩
   |true=>
   rw[if_pos rfl] at q8 ⊢;refine a9 (he fp F Y _ s8 (ps++W) H8 _ I8 q8) (λv9 s9 ⟨y9,H9,I9,r9,hacc,hsz,q9⟩=>?_) λ_ _ z=>False.elim z;refine a9 (lE (X:=bz X xs scope fp F Y) _ s9 (ps++W) H9 (.ref B.heap.objs.size) [y9] _ [v9] (λ_ H'=>N (ys++[y9]) H') I9 rfl (.cons r9 .nil) ⟨_,_,_,rfl,rfl,hacc,hsz,q9⟩) (λ_ s10 ⟨_,H10,I10,_,q10⟩=>?_) λ_ _ z=>False.elim z;obtain⟨m',hm,w10⟩:=hNN _ H10 q10;obtain⟨a1,a2⟩:=keepS I10;exact⟨m',hm,i+1,ps,_,H10,hps,I10.unpinned,a1,a2,w10⟩
 have eC:(B.heap.push {cls:= .type "list",dict:=none,data:= .seq ([]:List Value).toArray}).objs.size=F.heap.objs.size:=by rw[es3]
 rw[eC];have es4:({heap:=h₁,gens:=B.gens,drawn:=B.drawn,toks:=B.toks,os:=B.os}:Shared)={F with heap:=h₁,toks:=B.toks}:=by rw[<-hs3]
 rw[es4];exact codeAny_compStart_list loop<|T.self _ 0 _ _ _ st3 loop
theorem mr{z:TI}{g:TG}{B:TT}{te:TE}(hc:X.calm=true)(C:CompScope X scope)
  (hi:PI X tg iter z)(Z:∀fp s H,PG (bz X xs scope fp s H) tg g)(ht:∀fp s H,zv (bz X xs scope fp s H) ifs B)(he:∀fp s H,PE (bz X xs scope fp s H) elt te)
  (hs:∀x,foldedSetIterable iter X.env x=pure x):PE X (.ListComp elt [⟨tg,iter,ifs,0⟩] scope pos) (qu xs.length z g B te):=by
 intro pins s W H Q I h;rw[eval_ListComp];refine lQ (use:=none) hc C hi Z ht he hs I h λI3 f3 F U=>?_;obtain⟨Y,c,_⟩:=id F.loc;exact⟨Y,c,λh' J=>⟨.ref _,_,oQ I3 f3 F J,rfl,U⟩⟩
theorem pB{z:Str}{J:Pos}{spos:Pos}{wi:TI}{g:TG}{tc:TT}{te:TE}{i:Nat}(hc:X.calm=true)(C:CompScope X scope)(hN:X.N.Nodup)
  (hi:PI X tg iter wi)(hg:∀fp s H,PG (bz X xs scope fp s H) tg g)(ht:∀fp s H,zv (bz X xs scope fp s H) ifs tc)(he:∀fp s H,PE (bz X xs scope fp s H) elt te)
  (hs:∀x,foldedSetIterable iter X.env x=pure x)(hy:X.N[i]? =some z)(hl:Loc X.env.scope z)(hf:X.fn z=true∨X.env.scope.names.lookup z=some .local):
  PS X (.Assign [.Name z J] (.ListComp elt [⟨tg,iter,ifs,0⟩] scope pos) spos) (ue (qu xs.length wi g tc te)<|gO i):=by
 have B:∃b,swapsWith (.ListComp elt [⟨tg,iter,ifs,0⟩] scope pos) (some<|.Name z J) spos.line X.env=pure b:=⟨_,rfl⟩;obtain⟨b,B⟩:=B;cases b with
 |false=>exact uY hN hy hl (mr hc C hi hg ht he hs) B hf
 |true=>
  intro pins s W H D I h;rw[exec_Assign_Name_used _ _ _ _ B];refine ae<|wpAny_standAt<|ae ?_;show wpAny _ X.A (do let _ <-comprehension (.ListComp elt [⟨tg,iter,ifs,0⟩] scope pos) scope X.env _ (newList []) false (eval iter X.env) (some<|assign (.Name z J) X.env)) _ _ s
  refine ae<|a9 (lQ (use:=some<|assign (.Name z J) X.env) (QQ:=λ_ s'=>SP X pins D .next s') hc C hi hg ht he hs I h λ{fp Y s5 H3 H4 Dd os} F f3 I5 qn=>?_) (λ_ s' hq=>ai<|ai hq) λ_ _ e=>e
  have I6:Inv X pins W H4 s5:=by have:=oQ F f3 I5<|Heap.SameBut.refl _ _;exact this
  obtain⟨m5,hn5,_⟩:=id I5.loc;have hC0:H4 Y.heap.objs.size=none:=I5.free;have U:X.env.locals≠Y.heap.objs.size:=aw F.lt;show wpAny _ X.A (assign (.Name z J) X.env<|.ref Dd) _ _ _;refine wpAny_assign_Name<|lm (v:= .ref Dd) I6 hN hy hl rfl (λs7 I7 hch=>?_) hf;obtain⟨a,sb,ha⟩:=hch
  have hCa:Y.heap.objs.size≠a:=by
   rcases ha with rfl|ha
   .exact U.symm
   .obtain⟨v,q⟩:=F.cell z a ha;exact(aw q.lt).symm
  refine⟨m5,hn5.sameBut sb hCa,λh' Z=>⟨_,H4,?_,qn⟩⟩;refine I7.turned (t':=s7.toks) (it:=Y.heap.objs.size) (λb o B e=>(Z.2 b B).trans e) hC0 U.symm (.inr F.sz) (λz c e=>?_) λp hp=>?_
  .obtain⟨v,q⟩:=F.cell z c e;exact aw q.lt
  .exact aw<|au (F.pin p hp).1
end L2
namespace Ev
open PySem PySem.Spec PyProof.Rows L2
variable{xs ys:List V}{a p:Addr}{H H':Hp}{m m' n:Nat}{G G':Nat->Addr}{vs:List (Key×V)}
inductive D where
 |non|bl (b:Bool)|int (i:Int)|str (x:Str)|tup (xs:List D)|fl (xs:List D)|ref (n:Nat)
 deriving Inhabited
inductive O where
 |lst (xs:List D)|dct (kvs:List (Key×D))|ins (c:Str)(fs:List (Str×D))|dcf (kvs:List (Key×D))
noncomputable abbrev aU:=List O
inductive R(α:Type) where
 |ok (a:α)(st:aU)
 |bad
abbrev M(α:Type):=aU->R α
noncomputable def ret{α:Type}(a:α):M α:=λst=>.ok a st
noncomputable def bg{α β:Type}(m:M α)(f:α->M β):M β:=λst=>match m st with
 | .ok a st'=>f a st'
 | .bad=>.bad
noncomputable def stuck{α:Type}:M α:=λ_=>.bad
noncomputable def fe{α:Type}(o:Option α):M α:=λst=>match o with
 |some a=>.ok a st
 |none=>.bad
noncomputable def items:O->Option (List D)
 | .lst xs=>some xs
 |_=>none
noncomputable def gC(f:D->D->Option Bool):List D->List D->Option Bool
 |[],[]=>some true
 |[],_::_=>some false
 |_::_,[]=>some false
 |a::as,b::bs=>match f a b,gC f as bs with
  |some x,some y=>some<|x&&y
  |_,_=>none
noncomputable def nz:D->D->Option Bool
 | .int i,.int j=>some<|i==j
 | .str x,.str y=>some<|x==y
 | .non,.int _=>some false
 |_,_=>none
def kY(st:aU)(a b:D):Option Bool:=match a with
 | .tup xs=>(match b with
  | .tup ys=>gC nz xs ys
  |_=>none)
 | .ref m=>(match b with
  | .ref n=>(match st[m]? with
   |some (.lst xs)=>(match st[n]? with
    |some (.lst ys)=>gC nz xs ys
    |_=>none)
   |_=>none)
  |_=>none)
 |a=>nz a b
def tz(K:aF)(H:Hp)(a:Addr)(xs:List V):Prop:=
 (∃o,H a=some (.frz o<|.lst xs))∨
  ∃(o:Obj)(its:Array Value)(n:Nat),K.lookup a=some o/\o.cls=.type "list" /\o.dict=none/\o.data=.seq its n/\its.size<=sizeLine/\bn xs its.toList
theorem tz.sql{K:aF}(h:tz K H a xs):dO K H a xs:=by
 rcases h with h|h
 .exact .inl<|.inr h
 .exact .inr h
mutual
inductive VRel(K:aF)(H:Hp)(G:Nat->Addr)(m:Nat):D->V->Prop where
 |non:VRel K H G m .non .non
 |bl (b:Bool):VRel K H G m (.bl b) (.bl b)
 |int (i:Int):VRel K H G m (.int i) (.int i)
 |str (x:Str):VRel K H G m (.str x) (.str x)
 |tup {a:Addr}{ds:List D}{xs:List V}(h:fP K H a xs)(r:VRels K H G m ds xs):VRel K H G m (.tup ds) (.ref a)
 |fl {a:Addr}{ds:List D}{xs:List V}(h:tz K H a xs)(r:VRels K H G m ds xs):VRel K H G m (.fl ds) (.ref a)
 |ref {n:Nat}(h:n<m):VRel K H G m (.ref n) (.ref<|G n)
inductive VRels(K:aF)(H:Hp)(G:Nat->Addr)(m:Nat):List D->List V->Prop where
 |nil:VRels K H G m [] []
 |cons {d:D}{v:V}{ds:List D}{vs:List V}(h:VRel K H G m d v)(t:VRels K H G m ds vs):VRels K H G m (d::ds) (v::vs)
end
structure Ext0(H H':Hp)(G G':Nat->Addr)(m m':Nat):Prop where
 le:m<=m'
 ad:∀n,n<m->G' n=G n
 tp:∀b xs,H b=some (.tup xs)->H' b=some (.tup xs)
 fz:∀b o u,H b=some (.frz o u)->H' b=some (.frz o u)
structure Ext(H H':Hp)(G G':Nat->Addr)(m m':Nat):Prop extends Ext0 H H' G G' m m' where
 fr:∀b o,H b=some o->(∀n,n<m->G n≠b)->H' b=some o/\∀n,n<m'->G' n≠b
theorem Ext.refl(H:Hp)(G:Nat->Addr)(m:Nat):Ext H H G G m m:=⟨⟨aa _,λ_ _=>rfl,λ_ _ h=>h,λ_ _ _ h=>h⟩,λ_ _ h k=>⟨h,k⟩⟩
theorem Ext.trans{H1 I:Hp}{G1 G2:Nat->Addr}{B z:Nat}(a:Ext H H1 G G1 m B)(b:Ext H1 I G1 G2 B z):Ext H I G G2 m z:=
 ⟨⟨aM a.le b.le,λn F=>(b.ad n<|ao F a.le).trans<|a.ad n F,λc xs e=>b.tp c xs<|a.tp c xs e,λc o u e=>b.fz c o u<|a.fz c o u e⟩,λc o e k=>by obtain⟨U,J⟩:=a.fr c o e k;exact b.fr c o U J⟩
theorem fP.ext{K:aF}(e:Ext0 H H' G G' m m')(h:fP K H a xs):fP K H' a xs:=by
 rcases h with(h|⟨o,h⟩)|h
 .exact .inl<|.inl<|e.tp _ _ h
 .exact .inl<|.inr ⟨o,e.fz _ _ _ h⟩
 .exact .inr h
theorem tz.ext{K:aF}(e:Ext0 H H' G G' m m')(h:tz K H a xs):tz K H' a xs:=by
 rcases h with⟨o,h⟩|h
 .exact .inl ⟨o,e.fz _ _ _ h⟩
 .exact .inr h
mutual
theorem VRel.ext0{K:aF}(e:Ext0 H H' G G' m m'):∀{d:D}{v:V},VRel K H G m d v->VRel K H' G' m' d v
 |_,_,.non=>.non
 |_,_,.bl b=>.bl b
 |_,_,.int i=>.int i
 |_,_,.str x=>.str x
 |_,_,.tup h r=>.tup (fP.ext e h)<|VRels.ext0 e r
 |_,_,.fl h r=>.fl (tz.ext e h)<|VRels.ext0 e r
 |_,_,.ref (n:=n) h=>by rw[<-e.ad n h];exact .ref<|ao h e.le
theorem VRels.ext0{K:aF}(e:Ext0 H H' G G' m m'):∀{ds:List D}{vs:List V},VRels K H G m ds vs->VRels K H' G' m' ds vs
 |_,_,.nil=>.nil
 |_,_,.cons h t=>.cons (VRel.ext0 e h)<|VRels.ext0 e t
end
theorem VRel.ext{K:aF}{d:D}{v:V}(h:VRel K H G m d v)(e:Ext H H' G G' m m'):VRel K H' G' m' d v:=VRel.ext0 e.toExt0 h
theorem VRels.ext{K:aF}{d:List D}{v:List V}(h:VRels K H G m d v)(e:Ext H H' G G' m m'):VRels K H' G' m' d v:=VRels.ext0 e.toExt0 h
section
variable{K:aF}{H:Hp}{G:Nat->Addr}{m:Nat}
theorem VRels.length:∀{ds:List D}{vs:List V},VRels K H G m ds vs->ds.length=vs.length
 |_,_,.nil=>rfl
 |_,_,.cons _ t=>by rw[length_cons,length_cons,t.length]
theorem VRels.get:∀{ds:List D}{vs:List V}{i:Nat}{d:D},VRels K H G m ds vs->ds[i]? =some d->∃v,vs[i]? =some v/\VRel K H G m d v
 |_,_,_,_,.nil,e=>by simp at e
 |_,_,0,_,.cons r _,e=>by simp at e;subst e;exact⟨_,rfl,r⟩
 |_,_,i+1,d,.cons _ t,e=>by
  obtain⟨v,h1,h2⟩:=t.get (i:=i) (d:=d) (by simpa using e)
  exact⟨v,by simpa using h1,h2⟩
theorem VRels.append:∀{ds es:List D}{vs ws:List V},VRels K H G m ds vs->VRels K H G m es ws->VRels K H G m (ds++es) (vs++ws)
 |_,_,_,_,.nil,s=>s
 |_,_,_,_,.cons r t,s=>.cons r<|t.append s
theorem VRels.set:∀{ds:List D}{vs:List V}{d:D}{v:V}(i:Nat),VRels K H G m ds vs->VRel K H G m d v->VRels K H G m (ds.set i d) (vs.set i v)
 |_,_,_,_,_,.nil,_=>.nil
 |_,_,_,_,0,.cons _ t,r=>.cons r t
 |_,_,_,_,i+1,.cons q t,r=>.cons q<|t.set i r
theorem VRels.take:∀{ds:List D}{vs:List V}(n:Nat),VRels K H G m ds vs->VRels K H G m (ds.take n) (vs.take n)
 |_,_,0,_=>.nil
 |_,_,_+1,.nil=>.nil
 |_,_,n+1,.cons r t=>.cons r<|t.take n
theorem VRels.drop:∀{ds:List D}{vs:List V}(n:Nat),VRels K H G m ds vs->VRels K H G m (ds.drop n) (vs.drop n)
 |_,_,0,h=>h
 |_,_,_+1,.nil=>.nil
 |_,_,n+1,.cons _ t=>t.drop n
end
inductive DRels(K:aF)(H:Hp)(G:Nat->Addr)(m:Nat):List (Key×D)->List (Key×V)->Prop where
 |nil:DRels K H G m [] []
 |cons {k:Key}{d:D}{v:V}{ds:List (Key×D)}{vs:List (Key×V)}(h:VRel K H G m d v)(t:DRels K H G m ds vs):DRels K H G m ((k,d)::ds) ((k,v)::vs)
theorem DRels.ext0{K:aF}(e:Ext0 H H' G G' m m'){ds:List (Key×D)}(h:DRels K H G m ds vs):DRels K H' G' m' ds vs:=by
 induction h with
 |nil=>exact .nil
 |cons h t ih=>exact .cons (VRel.ext0 e h) ih
theorem DRels.ext{K:aF}{ds:List (Key×D)}(h:DRels K H G m ds vs)(e:Ext H H' G G' m m'):DRels K H' G' m' ds vs:=h.ext0 e.toExt0
theorem DRels.length{K:aF}{ds:List (Key×D)}(h:DRels K H G m ds vs):ds.length=vs.length:=by
 induction h with
 |nil=>rfl
 |cons h t ih=>rw[length_cons,length_cons,ih]
theorem DRels.append{K:aF}{ds es:List (Key×D)}{ws:List (Key×V)}(h:DRels K H G m ds vs)(k:DRels K H G m es ws):DRels K H G m (ds++es) (vs++ws):=by
 induction h with
 |nil=>exact k
 |cons h t ih=>exact .cons h ih
inductive FRels(K:aF)(H:Hp)(G:Nat->Addr)(m:Nat):List (Str×D)->List (Str×V)->Prop where
 |nil:FRels K H G m [] []
 |cons {k:Str}{d:D}{v:V}{ds:List (Str×D)}{vs:List (Str×V)}(h:VRel K H G m d v)(t:FRels K H G m ds vs):FRels K H G m ((k,d)::ds) ((k,v)::vs)
theorem FRels.ext0{K:aF}(e:Ext0 H H' G G' m m'){ds:List (Str×D)}{vs:List (Str×V)}(h:FRels K H G m ds vs):FRels K H' G' m' ds vs:=by
 induction h with
 |nil=>exact .nil
 |cons h t ih=>exact .cons (VRel.ext0 e h) ih
theorem FRels.look{K:aF}{f:Str}{ds:List (Str×D)}{vs:List (Str×V)}(h:FRels K H G m ds vs){d:D}(e:ds.lookup f=some d):∃v,vs.lookup f=some v/\VRel K H G m d v:=by
 induction h with
 |nil=>cases e
 | @cons k d' v ds vs h t ih=>
  rw[lookup_cons] at e ⊢;cases q:f==k with
  |true=>rw[q] at e;cases e;exact⟨v,rfl,h⟩
  |false=>rw[q] at e;exact ih e
noncomputable def putD(f:Str)(d:D):List (Str×D)->List (Str×D)
 |[]=>[(f,d)]
 |(g,x)::r=>if g=f then(g,d)::r else(g,x)::putD f d r
theorem FRels.put{K:aF}{f:Str}{d:D}{v:V}(q:VRel K H G m d v){ds:List (Str×D)}{vs:List (Str×V)}(h:FRels K H G m ds vs):FRels K H G m (putD f d ds) (dY f v vs):=by
 induction h with
 |nil=>exact .cons q .nil
 | @cons k d' v' ds vs h t ih=>
  unfold putD dY;by_cases e:k=f
  .rw[if_pos e,if_pos e];exact .cons q t
  .rw[if_neg e,if_neg e];exact .cons h ih
theorem FRels.length{K:aF}{ds:List (Str×D)}{vs:List (Str×V)}(h:FRels K H G m ds vs):ds.length=vs.length:=by
 induction h with
 |nil=>rfl
 |cons h t ih=>rw[length_cons,length_cons,ih]
def jg(K:aF)(H:Hp)(G:Nat->Addr)(m:Nat)(a:Addr):O->Prop
 | .lst ds=>∃xs,H a=some (.lst xs)/\VRels K H G m ds xs
 | .dct kvs=>∃vs,H a=some (.dK vs)/\DRels K H G m kvs vs
 | .ins x fs=>∃C dx vs,PySem.W.nsIn K mainGlobals x=some (some<|.ref C)/\H a=some (.ins C dx vs)/\FRels K H G m fs vs/\fs.length<=900
 | .dcf kvs=>∃ob vs,H a=some (.frz ob<|.dK vs)/\DRels K H G m kvs vs
theorem jg.move{K:aF}{o:O}(h:jg K H G m a o)(E:Ext0 H H' G G' m m')(c:H' a=H a):jg K H' G' m' a o:=by
 cases o with
 |lst ds=>obtain⟨xs,h1,h2⟩:=h;exact⟨xs,c.trans h1,VRels.ext0 E h2⟩
 |dct ds=>obtain⟨xs,h1,h2⟩:=h;exact⟨xs,c.trans h1,h2.ext0 E⟩
 |ins x fs=>obtain⟨C,dx,xs,h0,h1,h2,B⟩:=h;exact⟨C,dx,xs,h0,c.trans h1,h2.ext0 E,B⟩
 |dcf ds=>obtain⟨z,xs,h1,h2⟩:=h;exact⟨z,xs,c.trans h1,h2.ext0 E⟩
theorem jg.there{K:aF}{o:O}(h:jg K H G m a o):∃u,H a=some u/\(∀xs,u≠ .tup xs)/\∀c w,(∀kvs,w≠ .dK kvs)->u≠ .frz c w:=by
 cases o with
 |ins x fs=>obtain⟨C,dx,xs,h0,h1,h2⟩:=h;exact⟨_,h1,(λ_ z=>by cases z),λ_ _ _ z=>by cases z⟩
 |dcf ds=>obtain⟨c,xs,h1,h2⟩:=h;exact⟨_,h1,(λ_ z=>by cases z),(λ_ _ n z=>by cases z;exact n _ rfl)⟩
 |_=>obtain⟨xs,h1,h2⟩:=h;exact⟨_,h1,(λ_ z=>by cases z),λ_ _ _ z=>by cases z⟩
theorem jg.there2{K:aF}{o:O}(h:jg K H G m a o)(B:∀kvs,o≠ .dcf kvs):∃u,H a=some u/\(∀xs,u≠ .tup xs)/\∀c w,u≠ .frz c w:=by
 cases o with
 |ins x fs=>obtain⟨C,dx,xs,h0,h1,h2⟩:=h;exact⟨_,h1,(λ_ z=>by cases z),λ_ _ z=>by cases z⟩
 |dcf ds=>exact absurd rfl<|B ds
 |_=>obtain⟨xs,h1,h2⟩:=h;exact⟨_,h1,(λ_ z=>by cases z),λ_ _ z=>by cases z⟩
structure Sim(K:aF)(H:Hp)(G:Nat->Addr)(st:aU):Prop where
 inj:∀i j,i<st.length->j<st.length->G i=G j->i=j
 ob:∀n o,st[n]? =some o->jg K H G st.length (G n) o
theorem Sim.laid{K:aF}{st:aU}(S:Sim K H G st)(B:H p=none){ho:HO}{o:O}
  (Y:∀G',(∀n,n<st.length->G' n=G n)->G' st.length=p->jg K (upd H p ho) G' (st.length+1) p o):
  ∃G',Ext H (upd H p ho) G G' st.length (st.length+1)/\G' st.length=p/\Sim K (upd H p ho) G' (st++[o]):=by
 have J:∀n o,st[n]? =some o->G n≠p:=λn o e=>by have q:=S.ob n o e;obtain⟨u,h1,_⟩:=q.there;exact aN h1 B
 have E:Ext H (upd H p ho) G (λn=>if n=st.length then p else G n) st.length (st.length+1):=⟨⟨le_succ _,λn z=>by simp[ne_of_lt z],λb xs e=>by rw[aI<|aN e B];exact e,λb c u e=>by rw[aI<|aN e B];exact e⟩,λb c e k=>by
  refine⟨by rw[aI<|aN e B];exact e,λn z=>?_⟩
  by_cases hn':n=st.length
  .rw[if_pos hn'];exact(aN e B).symm
  .rw[if_neg hn'];exact k n (by omega)⟩
 refine⟨λn=>if n=st.length then p else G n,E,by simp,?_⟩
 have lt:∀{n},n<st.length->∃o,st[n]? =some o:=λ{n} z=>⟨st[n],by simp[z]⟩
 refine⟨λi j hi Z e=>?_,λn c e=>?_⟩
 .rw[aE,length_singleton] at hi Z;by_cases hi':i=st.length
  .by_cases hj':j=st.length
   .omega
   .have q:p=G j:=by simpa[hi',hj'] using e
    obtain⟨c,U⟩:=lt (show j<st.length by omega)
    exact absurd q.symm<|J j c U
  .by_cases hj':j=st.length
   .have q:G i=p:=by simpa[hi',hj'] using e
    obtain⟨c,U⟩:=lt (show i<st.length by omega)
    exact absurd q<|J i c U
   .exact S.inj i j (by omega) (by omega) (by simpa[hi',hj'] using e)
 .rw[aE,length_singleton];by_cases z:n=st.length
  .subst z;rw[az<|aa _,sub_self] at e;have e':o=c:=by simpa using e
   subst e';have:=Y (λn=>if n=st.length then p else G n) (λn z=>by simp[ne_of_lt z]) (by simp)
   simpa using this
  .have I:n<st.length:=by have:=(aq e).1;rw[aE,length_singleton] at this;omega
   rw[aB I] at e;have old:=S.ob n c e;have F:G n≠p:=J n c e;have hG:(if n=st.length then p else G n)=G n:=by rw[if_neg z]
   rw[hG];exact old.move E.toExt0<|aI F
theorem Sim.write{K:aF}{st:aU}(S:Sim K H G st){ds es:List D}(e:st[n]? =some (.lst ds))(r:VRels K H G st.length es ys):
  Ext H (upd H (G n)<|.lst ys) G G st.length st.length/\Sim K (upd H (G n)<|.lst ys) G (st.set n<|.lst es):=by
 obtain⟨xs,h1,h2⟩:=S.ob n _ e;have B:n<st.length:=(aq e).1
 have E:Ext H (upd H (G n)<|.lst ys) G G st.length st.length:=by
  refine⟨⟨aa _,λ_ _=>rfl,λb zs q=>?_,λb o u q=>?_⟩,λb o q k=>⟨by rw[aI (k n B).symm];exact q,k⟩⟩
  .rw[aI<|cm q h1 (by intro z;cases z)];exact q
  .rw[aI<|cm q h1 (by intro z;cases z)];exact q
 refine⟨E,λi j hi I=>S.inj i j (by simpa using hi) (by simpa using I),λk o q=>?_⟩
 rw[aA];by_cases hk:k=n
 .subst hk;rw[aK B] at q;cases q;exact⟨ys,bf,r.ext E⟩
 .rw[aD<|Ne.symm hk] at q;have F:k<st.length:=(aq q).1;have c:G k≠G n:=λz=>hk<|S.inj k n F B z;have old:=S.ob k o q;exact old.move E.toExt0<|aI c
theorem Sim.add{K:aF}{st:aU}(S:Sim K H G st){ds:List D}(F:H p=some (.lst ys))(ap:∀n,n<st.length->G n≠p)(r:VRels K H G st.length ds ys):
  ∃G',(∀n,n<st.length->G' n=G n)/\G' st.length=p/\Sim K H G' (st++[.lst ds]):=by
 have up:Ext0 H H G (λn=>if n=st.length then p else G n) st.length (st.length+1):=⟨le_succ _,λn c=>by simp[ne_of_lt c],λ_ _ e=>e,λ_ _ _ e=>e⟩
 refine⟨λn=>if n=st.length then p else G n,λn c=>by simp[ne_of_lt c],by simp,⟨λi j hi I e=>?_,λn B e=>?_⟩⟩
 .rw[aE,length_singleton] at hi I;by_cases hi':i=st.length
  .by_cases hj':j=st.length
   .omega
   .exact absurd (show G j=p by simpa[hi',hj'] using e.symm)<|ap j (by omega)
  .by_cases hj':j=st.length
   .exact absurd (show G i=p by simpa[hi',hj'] using e)<|ap i (by omega)
   .exact S.inj i j (by omega) (by omega) (by simpa[hi',hj'] using e)
 .rw[aE,length_singleton];by_cases c:n=st.length
  .subst c;rw[az<|aa _,sub_self] at e;have e':O.lst ds=B:=by simpa using e
   subst e';refine⟨ys,?_,VRels.ext0 up r⟩;simpa using F
  .have z:n<st.length:=by have:=(aq e).1;rw[aE,length_singleton] at this;omega
   rw[aB z] at e;have old:=S.ob n B e;have hG:(if n=st.length then p else G n)=G n:=by rw[if_neg c]
   rw[hG];exact old.move up rfl
theorem Sim.writeD{K:aF}{st:aU}(S:Sim K H G st){kvs c:List (Key×D)}{ys:List (Key×V)}(e:st[n]? =some (.dct kvs))(r:DRels K H G st.length c ys):
  Ext H (upd H (G n)<|.dK ys) G G st.length st.length/\Sim K (upd H (G n)<|.dK ys) G (st.set n<|.dct c):=by
 obtain⟨xs,h1,h2⟩:=S.ob n _ e;have F:n<st.length:=(aq e).1
 have E:Ext H (upd H (G n)<|.dK ys) G G st.length st.length:=by
  refine⟨⟨aa _,λ_ _=>rfl,λb zs q=>?_,λb o u q=>?_⟩,λb o q k=>⟨by rw[aI (k n F).symm];exact q,k⟩⟩
  .rw[aI<|cm q h1 (by intro z;cases z)];exact q
  .rw[aI<|cm q h1 (by intro z;cases z)];exact q
 refine⟨E,λi j hi J=>S.inj i j (by simpa using hi) (by simpa using J),λk o q=>?_⟩
 rw[aA];by_cases hk:k=n
 .subst hk;rw[aK F] at q;cases q;exact⟨ys,bf,r.ext E⟩
 .rw[aD<|Ne.symm hk] at q;have I:k<st.length:=(aq q).1;have B:G k≠G n:=λz=>hk<|S.inj k n I F z;have old:=S.ob k o q;exact old.move E.toExt0<|aI B
theorem Sim.addD{K:aF}{st:aU}(S:Sim K H G st){ys:List (Key×V)}{ds:List (Key×D)}(F:H p=some (.dK ys))(ap:∀n,n<st.length->G n≠p)(r:DRels K H G st.length ds ys):
  ∃G',(∀n,n<st.length->G' n=G n)/\G' st.length=p/\Sim K H G' (st++[.dct ds]):=by
 have up:Ext0 H H G (λn=>if n=st.length then p else G n) st.length (st.length+1):=⟨le_succ _,λn c=>by simp[ne_of_lt c],λ_ _ e=>e,λ_ _ _ e=>e⟩
 refine⟨λn=>if n=st.length then p else G n,λn c=>by simp[ne_of_lt c],by simp,⟨λi j hi I e=>?_,λn B e=>?_⟩⟩
 .rw[aE,length_singleton] at hi I;by_cases hi':i=st.length
  .by_cases hj':j=st.length
   .omega
   .exact absurd (show G j=p by simpa[hi',hj'] using e.symm)<|ap j (by omega)
  .by_cases hj':j=st.length
   .exact absurd (show G i=p by simpa[hi',hj'] using e)<|ap i (by omega)
   .exact S.inj i j (by omega) (by omega) (by simpa[hi',hj'] using e)
 .rw[aE,length_singleton];by_cases c:n=st.length
  .subst c;rw[az<|aa _,sub_self] at e;have e':O.dct ds=B:=by simpa using e
   subst e';refine⟨ys,?_,r.ext0 up⟩;simpa using F
  .have z:n<st.length:=by have:=(aq e).1;rw[aE,length_singleton] at this;omega
   rw[aB z] at e;have old:=S.ob n B e;have hG:(if n=st.length then p else G n)=G n:=by rw[if_neg c]
   rw[hG];exact old.move up rfl
end Ev
namespace PySem.SeqAt
open AutoSeq1 (wpAny_loadPart')
open MeetsSeq
section
end
section
end
end PySem.SeqAt
set_option genInjectivity false
namespace Ev
variable{α β:Type}{s:Shared}{H:Hp}{W:L2.St}{pins:List (Addr×Obj)}{X:Cx}{G:Nat->Addr}{u v:Value}
theorem bs{o:Option α}{f:α->Option β}{b:β}(h:o.bind f=some b):∃a,o=some a/\f a=some b:=by
 cases o with
 |none=>cases h
 |some a=>exact⟨a,rfl,h⟩
theorem fW{c:Prop}[Decidable c]{x:Option β}{b:β}(h:(if c then x else none)=some b):c/\x=some b:=by
 by_cases k:c
 .rw[if_pos k] at h;exact⟨k,h⟩
 .rw[if_neg k] at h;cases h
theorem FD{c:Prop}[Decidable c]{x y:Option β}{b:β}(h:(if c then x else y)=some b):(c/\x=some b)∨y=some b:=by
 by_cases k:c
 .rw[if_pos k] at h;exact .inl ⟨k,h⟩
 .rw[if_neg k] at h;exact .inr h
theorem n4{o:Option α}{G:Option β}{F:α->Option β}{b:β}(h:o.elim G F=some b):(∃a,o=some a/\F a=some b)∨(o=none/\G=some b):=by
 cases o with
 |none=>exact .inr ⟨rfl,h⟩
 |some a=>exact .inl ⟨a,rfl,h⟩
theorem map_some{f:α->β}{o:Option α}{b:β}(h:o.map f=some b):∃a,o=some a/\b=f a:=by
 cases o with
 |none=>cases h
 |some a=>exact⟨a,rfl,(ak h).symm⟩
noncomputable def one{α:Type}:List α->Option α
 |[a]=>some a
 |_=>none
theorem cN{l:List α}{a:α}(h:one l=some a):l=[a]:=by rcases l with _|⟨b,_|⟨c,l⟩⟩<;>cases h;rfl
noncomputable def nY{α:Type}:List α->Option (α×α)
 |[a,b]=>some (a,b)
 |_=>none
theorem gI{l:List α}{p:α×α}(h:nY l=some p):l=[p.1,p.2]:=by rcases l with _|⟨b,_|⟨c,_|⟨d,l⟩⟩⟩<;>cases h;rfl
open PySem PySem.Spec PyProof.Rows L2
open PySem.SeqAt
def At(K:aF)(H:Hp)(G:Nat->Addr)(m:Nat)(d:D)(u:Value):Prop:=∃v,VRel K H G m d v/\RelV v u
def FA(K:aF)(H:Hp)(G:Nat->Addr)(m:Nat)(ds:List D)(us:List Value):Prop:=∃vs,VRels K H G m ds vs/\bn vs us
theorem all_cons{e:Nat->Bool}{x:Bool}{n:Nat}:(range<|n+1).all (λj=>match j with|0=>x|j+1=>e j)=(x&&(range n).all e):=by rw[List.range_succ_eq_map,List.all_cons,List.all_map];rfl
theorem pM{a:Addr}{o:Obj}(I:Inv X pins W H s)(h:X.K.lookup a=some o):H a=none:=(I.bs a o<|I.ok.mod.kin a o h).2
theorem z4{a:Addr}{xs ys:List V}(I:Inv X pins W H s)(h:fP X.K H a xs)(h':dO X.K H a ys):False:=by obtain⟨_,_,p,_⟩:=I.tuple h;obtain⟨_,_,q,_⟩:=I.list h';exact ne_of_list_tuple q.isList p rfl
theorem xh{a:Addr}{xs:List V}(I:Inv X pins W H s)(h:fP X.K H a xs):(∃zs,H a=some (.tup zs))∨(∃o u,(∀kvs,u≠ .dK kvs)/\H a=some (.frz o u))∨H a=none:=by
 rcases h with(h|⟨o,h⟩)|⟨o,_,_,h,_⟩
 .exact .inl ⟨_,h⟩
 .exact .inr<|.inl ⟨_,_,(λ_ z=>by cases z),h⟩
 .exact .inr<|.inr<|pM I h
theorem Sim.obj{K:aF}{st:aU}(S:Sim K H G st){n:Nat}(h:n<st.length):∃u,H (G n)=some u/\(∀xs,u≠ .tup xs)/\∀c w,(∀kvs,w≠ .dK kvs)->u≠ .frz c w:=
 (S.ob n st[n] (by simp[h])).there
theorem mQ{m:Nat}{A:Around}{a b:D}{k:Bool}(e:nz a b=some k)(pa:At X.K H G m a u)(F:At X.K H G m b v):RcAt A s u v k/\RcNeAt A s u v (!k)/\EqAt A s u v k:=by
 obtain⟨x,B,ra⟩:=pa;obtain⟨y,z,c⟩:=F;cases B with
 |int i=>
  cases z with
  |int j=>cases e;obtain⟨t,rfl⟩:=ra;obtain⟨t',rfl⟩:=c;exact⟨RcAt.int_int i t j t',RcNeAt.int_int i t j t',EqAt.int_int i t j t'⟩
  |_=>cases e
 |str i=>
  cases z with
  |str j=>cases e;obtain⟨t,rfl⟩:=ra;obtain⟨t',rfl⟩:=c;exact⟨RcAt.str_str i t j t',RcNeAt.str_str i t j t',EqAt.str_str i t j t'⟩
  |_=>cases e
 |non=>
  cases z with
  |int j=>cases e;cases ra;obtain⟨t',rfl⟩:=c;exact⟨RcAt.none_int j t',RcNeAt.none_int j t',EqAt.none_int j t'⟩
  |_=>cases e
 |_=>cases e
theorem mS{X:Cx}{H:Hp}{s:Shared}{G:Nat->Addr}{m:Nat}:
  ∀{xs ys:List D}{us vs:List Value}{A:Around}{k:Bool},gC nz xs ys=some k->FA X.K H G m xs us->FA X.K H G m ys vs->
  ∃e:Nat->Bool,(∀j (h1:j<us.length)(h2:j<vs.length),EqAt A s us[j] vs[j]<|e j)/\k=((range<|min us.length vs.length).all e&&us.length==vs.length)
 |xs,ys,us,vs,A,k,e,⟨_,r1,q1⟩,⟨_,r2,q2⟩=>by
  unfold gC at e;cases q1 with
  |nil=>
   cases r1;refine⟨λ_=>true,λj h1 _=>absurd h1<|not_lt_zero _,?_⟩;cases q2 with
   |nil=>cases r2;rw[<-ak e];rfl
   |cons _ _=>cases r2;rw[<-ak e];simp
  |cons w1 w2=>
   cases q2 with
   |nil=>cases r1;cases r2;exact⟨λ_=>true,λj _ h2=>absurd h2<|not_lt_zero _,by rw[<-ak e];simp⟩
   |cons z1 z2=>
    cases r1 with
    | @cons x _ xs _ m1 m2=>
     cases r2 with
     | @cons y _ ys _ n1 n2=>
      simp only at e;cases e1:nz x y with
      |none=>rw[e1] at e;simp at e
      |some p=>
       cases e2:gC nz xs ys with
       |none=>rw[e1,e2] at e;simp at e
       |some q=>
        rw[e1,e2] at e;obtain⟨f,z,c⟩:=mS (X:=X) (s:=s) (A:=A) e2 ⟨_,m2,w2⟩ ⟨_,n2,z2⟩;refine⟨λj=>match j with|0=>p|j+1=>f j,λj h1 h2=>?_,?_⟩
        .cases j with
         |zero=>exact(mQ (X:=X) e1 ⟨_,m1,w1⟩ ⟨_,n1,z1⟩).2.2
         |succ j=>exact z j (by simpa using h1) (by simpa using h2)
        .have B:∀a b:Nat,min (a+1) (b+1)=min a b+1:=λa b=>by omega
         rw[length_cons,length_cons,B,all_cons,<-ak e,c,Bool.and_assoc];simp
theorem v8{st:aU}{a b:D}{A:Around}{k:Bool}(I:Inv X pins W H s)(S:Sim X.K H G st)(e:kY st a b=some k)(pa:At X.K H G st.length a u)(J:At X.K H G st.length b v)(F:A.units<cLine):RcAt A s u v k/\RcNeAt A s u v (!k):=by
 have flat:nz a b=some k->RcAt A s u v k/\RcNeAt A s u v (!k):=λe=>⟨(mQ (X:=X) e pa J).1,(mQ (X:=X) (A:=A) (s:=s) e pa J).2.1⟩
 have z:∀{us vs:Array Value}{f:Nat->Bool},(∀j (h1:j<us.toList.length)(h2:j<vs.toList.length),EqAt A.in1 s us.toList[j] vs.toList[j]<|f j)->∀j (h1:j<us.size)(h2:j<vs.size),EqAt A.in1 s us[j] vs[j] (f j):=λB j h1 h2=>by
  have q:=B j (by simpa using h1) (by simpa using h2)
  rw[Array.getElem_toList,Array.getElem_toList] at q;exact q
 cases a with
 |tup xs=>
  cases b with
  |tup ys=>
   obtain⟨_,qa,ra⟩:=pa;obtain⟨_,qb,rb⟩:=J;cases qa with
   |tup ha va=>
    cases qb with
    |tup hb vb=>
     cases ra;cases rb;obtain⟨its,Z,ta,_⟩:=I.tuple ha;obtain⟨its2,Y,tb,_⟩:=I.tuple hb;obtain⟨f,B,U⟩:=mS (X:=X) (s:=s) (A:=A.in1) (us:=its.toArray.toList) (vs:=its2.toArray.toList) e ⟨_,va,by simpa using Z⟩ ⟨_,vb,by simpa using Y⟩
     have q1:=RcAt.tuples ta tb F<|z B;have q2:=RcNeAt.tuples ta tb F<|z B;rw[show((range<|min its.toArray.size its2.toArray.size).all f&&its.toArray.size==its2.toArray.size)=k by rw[U];simp] at q1 q2
     exact⟨q1,q2⟩
  |_=>cases e
 |ref m=>
  cases b with
  |ref n=>
   unfold kY at e;dsimp only at e;cases q:st[m]? with
   |none=>rw[q] at e;cases e
   |some o=>
    rw[q] at e;cases o with
    |lst xs=>
     dsimp only at e;cases q':st[n]? with
     |none=>rw[q'] at e;cases e
     |some o'=>
      rw[q'] at e;cases o' with
      |lst ys=>
       dsimp only at e;obtain⟨_,qa,ra⟩:=pa;obtain⟨_,qb,rb⟩:=J;cases qa;cases qb;cases ra;cases rb;obtain⟨_,h1,va⟩:=S.ob _ _ q;obtain⟨_,h2,vb⟩:=S.ob _ _ q';obtain⟨its,Z,ta,_⟩:=I.list<|dO.of h1;obtain⟨its2,Y,tb,_⟩:=I.list<|dO.of h2;obtain⟨f,B,U⟩:=mS (X:=X) (s:=s) (A:=A.in1) (us:=its.toArray.toList) (vs:=its2.toArray.toList) e ⟨_,va,by simpa using Z⟩ ⟨_,vb,by simpa using Y⟩
       by_cases hsz:its.toArray.size=its2.toArray.size
       .have q1:=RcAt.lists ta.isList tb.isList hsz F<|z B;have q2:=RcNeAt.lists ta.isList tb.isList hsz F<|z B;have c:its.length=its2.length:=by simpa using hsz
        rw[show(range its.toArray.size).all f=k by rw[U];simp[c]] at q1 q2
        exact⟨q1,q2⟩
       .have c:¬its.length=its2.length:=by simpa using hsz
        have ek:k=false:=by rw[U];simp[c]
        subst ek;exact⟨RcAt.lists_lengths ta.isList tb.isList (by simpa using hsz) F,RcNeAt.lists_lengths ta.isList tb.isList (by simpa using hsz) F⟩
      |_=>cases e
    |_=>cases e
  |_=>cases e
 |_=>exact flat e
end Ev
namespace PySem
open Sem (wp)
variable{Q:Option Value->Shared->Prop}{g sl:Nat}
section
variable{prog:Program}{w:World}{A:Around}{E:Value->Shared->Prop}{s:Shared}{it v:Addr}
theorem nR{h':Heap}(c:A.handled=none)(hs:Heap.ExtBut it s.heap h')(z:∀h',Heap.ExtBut it s.heap h'->Q none {s with heap:=h'}):
  wpAny (model prog w) A.in1 (newExc (.type "StopIteration") []>>=λe=>raiseNew (α:=Fin) e) (λfin s'=>∃v,fin=.done (.ret v)/\wpAny (model prog w) A (pure<|some v) Q E s')
   (λe s'=>wpAny (model prog w) A (isInstance e (.type "StopIteration")>>=λb=>if b=true then pure none else throw e) Q E s') {s with heap:=h'}:=by
 refine ae ?_;simp only[newExc,newTuple];refine ae<|wpAny_newObj_type (ae (m:=firstArgMember _ _)<|wpAny_of_eq (a:=Value.none) (by first|rfl|(simp only[firstArgMember];rfl))<|wpAny_newObj_type ?_ (by size_fits)) (by size_fits)
 simp only[raiseNew];refine ae<|wpAny_handled ?_;rw[show A.in1.handled=none from c];refine ae<|ai<|wpAny_throw ?_;refine ae<|wpAny_isInstance (T:= "StopIteration") (b:=true) ⟨_,aC _ rfl,rfl⟩ isSubtype_stop<|ai<|z _<|(hs.push _).push _
end
section
variable{prog:Program}{w:World}{A:Around}{E:Value->Shared->Prop}{s:Shared}{a it:Addr}{es:Array (Int×Value)}{ep i:Nat}{t:SetTable}
structure Heap.RawS(h:Heap)(a:Addr)(es:Array (Int×Value))(ep:Nat)(t:SetTable):Prop where
 ob:∃o,h.get? a=some o/\o.ExactSet/\o.data=.set es ep t
 fits:t.fits es.size=true
 plain:t.plain=true
theorem Heap.RawS.ty(x:s.heap.RawS a es ep t):s.TypeIs (.ref a) "set":=let⟨o,ho,hc,_⟩:=x.ob;⟨o,ho,hc.1⟩
theorem kH:entryFor table "set.__iter__"=some Builtin.«frozenset.__iter__»:=entryFor_alias (id':= "frozenset.__iter__") (by kernel_rfl) rfl (by decide+kernel) (by kernel_rfl)
theorem Cp{Q:Bool->Shared->Prop}(h:Q (w.params.followText "set-order") s):wpAny (model prog w) A setsByText Q E s:=by unfold setsByText;exact ae<|wpAny_askSetting<|ai h
theorem iB:typeLookup (.type "set_iterator") (Str.ofString "__next__")=pure (some<|.builtin "set_iterator.__next__"):=by rw[typeLookup_type,builtinLookup_eq_fast];kernel_rfl
theorem uo{Q:Value->Shared->Prop}(x:s.heap.RawS a es ep t)
  (B:Q (.ref s.heap.objs.size) {s with heap:=s.heap.push {cls:= .type "set_iterator",data:= .fields #[.int 0 0,.int 0 0,.ref a,.int es.size 0,.int ep 0]}}):wpAny (model prog w) A (pyIter<|.ref a) Q E s:=by
 obtain⟨o,ho,H,hd⟩:=x.ob;have z:=x.ty;refine wpAny_pyIter_slot z F.slot_set_iter<|wpAny_call_entry F.slot_set_iter z kH ?_<|F.args_set_iter_1 _;unfold Builtin.«frozenset.__iter__» Builtin.Frozenset.slot0 Builtin.Frozenset.sizeOf setEntries;refine ae<|ae<|ai<|ai ?_;refine ae<|ae<|ae<|wpAny_setState_of ho hd x.fits<|ai<|ai ?_
 have c:∀{Q:Bool->Shared->Prop},Q false s->wpAny (model prog w) A.in1 (setDrawn a) Q E s:=λ{Q} h=>by unfold setDrawn;refine ae<|wpAny_setState_of ho hd x.fits ?_;dsimp only;refine ae<|Cp<|ai (show Q (!w.params.followText "set-order" &&(!t.plain&&decide (es.size>1))) s from ?_);rw[x.plain];simpa using h
 refine ae<|c ?_;simp only[false_eq_true,if_false];refine ae<|ai<|ae<|wpAny_setEpoch_of ho hd x.fits<|ae<|wpAny_newObj_type<|ai ⟨_,rfl,"set_iterator",_,⟨_,aC _ rfl,rfl⟩,iB,?_⟩;simpa[rawInt] using B
theorem c6:Slot "set_iterator" "__next__" "set_iterator.__next__":=
 .of (owner:= "set_iterator") (n:= "__next__") (by rw[typeLookup_type,builtinLookup_eq_fast];kernel_rfl) (by decide+kernel) (by decide+kernel) (by decide+kernel)
  (by first|exact .inl (by decide+kernel)|exact .inr (by decide+kernel)) (by rw[isSubtype_type];kernel_rfl)
theorem gP:entryFor table "set_iterator.__next__"=some Builtin.«set_iterator.__next__»:=entryFor_of_fast (by kernel_rfl)
theorem iN(a:Value):argsOk "set_iterator.__next__" ⟨[a],[]⟩:=by unfold argsOk;kernel_rfl
theorem pv{j:Nat}{h:Int}{v:Value}{Q:Option (Value×Nat)->Shared->Prop}(z:w.params.followText "set-order"=false)(c:t.led=true)(x:s.heap.RawS a es ep t)(h1:es[SetTable.below t.place sl]? =some (h,v))(h2:t.place[SetTable.below t.place sl]? =some j)(B:Q (some (v,j+1)) s):wpAny (model prog w) A (setNext a sl g ep) Q E s:=by
 obtain⟨o,ho,F,hd⟩:=x.ob;unfold setNext;refine ae<|wpAny_setState_of ho hd x.fits ?_;dsimp only;refine ae<|Cp ?_;rw[z];simp only[false_eq_true,if_false];show wpAny _ _ (if(!t.plain&&decide (es.size>1))=true then _ else _) _ _ s
 rw[x.plain];simp only[Bool.not_true,Bool.false_and,false_eq_true,if_false];refine ae (show wpAny _ _ (if(!t.led&& !es.isEmpty)=true then unsupported _ else pure ()) _ _ s from ?_)
 rw[c];simp only[Bool.not_true,Bool.false_and,false_eq_true,if_false];refine ai ?_;rw[h1,h2];exact ai B
theorem pw{Q:Option (Value×Nat)->Shared->Prop}(z:w.params.followText "set-order"=false)(c:t.led=true)(x:s.heap.RawS a es ep t)(h1:es[SetTable.below t.place sl]? =none)(B:Q none s):wpAny (model prog w) A (setNext a sl g ep) Q E s:=by
 obtain⟨o,ho,F,hd⟩:=x.ob;unfold setNext;refine ae<|wpAny_setState_of ho hd x.fits ?_;dsimp only;refine ae<|Cp ?_;rw[z];simp only[false_eq_true,if_false];show wpAny _ _ (if(!t.plain&&decide (es.size>1))=true then _ else _) _ _ s
 rw[x.plain];simp only[Bool.not_true,Bool.false_and,false_eq_true,if_false];refine ae (show wpAny _ _ (if(!t.led&& !es.isEmpty)=true then unsupported _ else pure ()) _ _ s from ?_)
 rw[c];simp only[Bool.not_true,Bool.false_and,false_eq_true,if_false];refine ai ?_;rw[h1];exact ai B
theorem jY{Q:Option (Value×Nat)->Shared->Prop}(c:w.params.followText "set-order"=true)(x:s.heap.RawS a es ep t)(z:Q (((pickOrder (w.params.setOrder a ep) es)[g]?).map λe=>(e.2,sl)) s):wpAny (model prog w) A (setNext a sl g ep) Q E s:=by obtain⟨o,ho,B,hd⟩:=x.ob;unfold setNext;refine ae<|wpAny_setState_of ho hd x.fits ?_;dsimp only;refine ae<|Cp ?_;rw[c];simp only[if_true,bne_self_eq_false,false_eq_true,if_false];refine ae ?_;unfold setWalk;refine ae<|wpAny_setState_of ho hd x.fits ?_;dsimp only;refine ae<|Cp ?_;rw[c];simp only[if_true];exact ae<|wpAny_askSetting<|ai<|ai z
noncomputable def Heap.RawSI(h:Heap)(it a:Addr)(sl i n ep:Nat):Prop:=∃o,h.get? it=some o/\o.cls=.type "set_iterator" /\o.data=.fields #[.int sl 0,.int i 0,.ref a,.int n 0,.int ep 0]
theorem Heap.RawSI.ty{n:Nat}(x:s.heap.RawSI it a sl i n ep):s.TypeIs (.ref it) "set_iterator":=let⟨o,ho,hc,_⟩:=x;⟨o,ho,hc⟩
theorem xt{sl':Nat}{v:Value}(c:s.heap.RawSI it a sl i es.size ep)(x:s.heap.RawS a es ep t)
  (Y:∀(E:Value->Shared->Prop)(U:Option (Value×Nat)->Shared->Prop),U (some (v,sl')) s->wpAny (model prog w) A.in1 (setNext a sl i ep) U E s)
  (hQ:∀h',h'.RawSI it a sl' (i+1) es.size ep->Heap.SameBut it s.heap h'->Q (some v) {s with heap:=h'}):wpAny (model prog w) A (pyNext<|.ref it) Q E s:=by
 obtain⟨o,ho,hc,hd⟩:=id c;obtain⟨os,z,Z,B⟩:=x.ob;have H:=c.ty;unfold pyNext;refine ae<|wpAny_attempt<|wpAny_callSpecial?_slot (name:=Str.ofString "__next__") H c6<|wpAny_call_entry c6 H gP ?_<|iN _;unfold Builtin.«set_iterator.__next__»;refine ae<|ai<|ae<|wpAny_fieldsOf ho hd ?_;dsimp only;unfold setEntries;refine ae<|ae<|wpAny_setState_of z B x.fits<|ai ?_;rw[if_neg (by simp)]
 refine ae ?_;simp only[toNat_natCast];refine Y _ _ ?_;dsimp only;have F:=Obj.data_mapFields hd (·.setIfInBounds 0 (rawInt (sl':Int)));have I:=Heap.get?_update_self (Obj.mapFields (·.setIfInBounds 0 (rawInt (sl':Int)))) ho<|Obj.isFreed_of_fields F;have J:=Obj.data_mapFields F (·.setIfInBounds 1 (rawInt<|(i:Int)+1));have g2:=Heap.get?_update_self (Obj.mapFields (·.setIfInBounds 1 (rawInt<|(i:Int)+1))) I<|Obj.isFreed_of_fields J;refine ae<|wpAny_setField ho hd (by simp)<|ae<|wpAny_setField (s:={s with heap:=_}) I F (by simp)<|ai ⟨_,rfl,ai<|hQ _ ⟨_,g2,?_,?_⟩ ?_⟩
 .exact(Obj.cls_mapFields ..).trans<|(Obj.cls_mapFields ..).trans hc
 .rw[J];simp[rawInt]
 .exact(Heap.SameBut.update ..).trans<|Heap.SameBut.update ..
theorem zZ(J:A.handled=none)(c:s.heap.RawSI it a sl i es.size ep)(x:s.heap.RawS a es ep t)
  (I:∀(E:Value->Shared->Prop)(H:Option (Value×Nat)->Shared->Prop),H none s->wpAny (model prog w) A.in1 (setNext a sl i ep) H E s)
  (Y:∀h',Heap.ExtBut it s.heap h'->Q none {s with heap:=h'}):wpAny (model prog w) A (pyNext<|.ref it) Q E s:=by
 obtain⟨o,ho,Z,hd⟩:=id c;obtain⟨os,z,U,B⟩:=x.ob;have F:=c.ty;unfold pyNext;refine ae<|wpAny_attempt<|wpAny_callSpecial?_slot (name:=Str.ofString "__next__") F c6<|wpAny_call_entry c6 F gP ?_<|iN _;unfold Builtin.«set_iterator.__next__»;refine ae<|ai<|ae<|wpAny_fieldsOf ho hd ?_;dsimp only;unfold setEntries;refine ae<|ae<|wpAny_setState_of z B x.fits<|ai ?_;rw[if_neg (by simp)]
 refine ae ?_;simp only[toNat_natCast];refine I _ _ ?_;dsimp only;exact ae<|wpAny_setField ho hd (by simp)<|nR J (Heap.SameBut.update ..).extBut Y
end
end PySem
namespace Tab23
open PySem
noncomputable def add(s:List Int×SetTable)(h:Int):Option (List Int×SetTable):=if s.1.contains h then some s else match s.2.freeSlot h with
 |some (j,wd)=>if wd then none else
  let r:=s.2.put j
  if r.1.fits (s.1.length+1)&& !r.1.tooFull then some (s.1.take r.2++h::s.1.drop r.2,r.1) else none
 |none=>none
def tq:List Int->List Int×SetTable->Option (List Int×SetTable)
 |[],s=>some s
 |h::r,s=>(add s h).bind<|tq r
noncomputable def walk(t:SetTable)(hs:List Int):Nat->Nat->List Int
 |0,_=>[]
 |n+1,slot=>let i:=SetTable.below t.place slot
  match hs[i]?,t.place[i]? with
  |some h,some j=>h::walk t hs n (j+1)
  |_,_=>[]
noncomputable def all:Nat->List (List Int)
 |0=>[[]]
 |n+1=>(all n)++((all n).filter λl=>l.length==n).flatMap λl=>(range 10).map λ(i:Nat)=>(i:Int)::l
end Tab23
namespace PySem
variable{a l:Addr}{h h':Heap}{hs ns:List Int}{prog:Program}
theorem kF{α:Type}:∀(l:List α)(i:Nat)(h:i<l.length),List.Perm (l[i]::l.eraseIdx i) l
 |a::l,0,_=>.refl _
 |a::l,i+1,h=>by
  have c:=kF l i (by simpa using h)
  have hi:i<l.length:=by simpa using h
  show List.Perm (l[i]::a::l.eraseIdx i)<|a::l;exact(List.Perm.swap ..).trans<|c.cons a
theorem qK{α:Type}(next:Nat->Nat):∀(n k:Nat)(left:List α)(out:Array α),left.length=n->List.Perm (pickOrder.go next n k left out).toList (out.toList++left)
 |0,k,left,out,h=>by have:left=[]:=length_eq_zero_iff.mp h;subst this;rw[append_nil];exact .refl _
 |n+1,k,left,out,h=>by
  unfold pickOrder.go;have c:next k % left.length<left.length:=Nat.mod_lt _ (by omega)
  rw[af c];dsimp only;have z:=qK next n (k+1) (left.eraseIdx<|next k % left.length) (out.push left[next k % left.length]) (by rw[List.length_eraseIdx_of_lt c];omega)
  refine z.trans ?_;rw[Array.toList_push,append_assoc];refine List.Perm.append_left _ ?_;exact kF left _ c
theorem sA{α:Type}(next:Nat->Nat)(xs:Array α):List.Perm (pickOrder next xs).toList xs.toList:=by
 have:=qK next xs.size 0 xs.toList #[] (by simp)
 simpa[pickOrder] using this
open Sem (wp)
open PyProof.Rows (IntsAre)
noncomputable def Heap.RawN(h:Heap)(a:Addr)(hs:List Int)(t:SetTable):Prop:=
 ∃es ep,h.RawS a es ep t/\es.toList.map (·.1)=hs/\∀e∈es.toList,∃k:Tok,e.2=.int e.1 k/\hashInt e.1=e.1
theorem Heap.RawS.at{es:Array (Int×Value)}{ep:Nat}{t:SetTable}(x:h.RawS a es ep t)(k:∀o,h.get? a=some o->h'.get? a=some o):h'.RawS a es ep t:=
 ⟨let⟨o,ho,r⟩:=x.ob;⟨o,k o ho,r⟩,x.fits,x.plain⟩
theorem Heap.RawN.at{t:SetTable}(x:h.RawN a hs t)(k:∀o,h.get? a=some o->h'.get? a=some o):h'.RawN a hs t:=
 let⟨es,ep,r,q⟩:=x;⟨es,ep,r.at k,q⟩
section
variable{prog:Program}{w:World}{A:Around}{E:Value->Shared->Prop}{s:Shared}{a:Addr}{hs hs':List Int}{t t':SetTable}{n:Int}{tk:Tok}
theorem yf(prog:Program)(w:World){es:List (Int×Value)}{hs:List Int}(e:es.map (·.1)=hs)(z:∀e∈es,∃k:Tok,e.2=.int e.1 k/\hashInt e.1=e.1)(n:Int):hs.contains n=true↔∃x∈es,Value.isInt n x.2=true:=by
 subst e;rw[List.contains_iff_mem,mem_map];constructor
 .rintro⟨x,c,rfl⟩;obtain⟨k,e,_⟩:=z x c;exact⟨x,c,by rw[e];exact intKind_is prog w x.1 k⟩
 .rintro⟨x,c,e⟩;obtain⟨k,F,_⟩:=z x c;rw[F] at e;obtain⟨H,B⟩:=Value.isInt_shape e;cases B;exact⟨x,c,rfl⟩
theorem ur{Q:Bool->Shared->Prop}(R:s.heap.RawN a hs t)(hn:hashInt n=n)(hz:hs.length<100)(c:Tab23.add (hs,t) n=some (hs',t'))
  (hQ:∀b h',Heap.SameBut a s.heap h'->h'.RawN a hs' t'->Q b {s with heap:=h',toks:=s.toks+1}):wpAny (model prog w) A (setAdd a<|.int n tk) Q E s:=by
 obtain⟨es,ep,x,Y,J⟩:=id R;obtain⟨o,ho,Z,hd⟩:=x.ob;have hsz:es.size=hs.length:=by rw[<-Y,length_map,length_toList]
 have I:ElemsOf (intKind prog w) es.toList:=λe h=>by
  obtain⟨k,h1,h2⟩:=J e h;exact⟨⟨e.1,by rw[h1];exact intKind_is prog w _ _,h2.symm⟩,by rw[h1];rfl⟩
 have H:(intKind prog w).is n (.int n tk)=true:=intKind_is prog w _ _;have hb:es.size<scanBound:=by unfold scanBound;omega
 unfold setAdd;refine wpAny_holding<|ae<|(intKind prog w).pyHash H ?_;unfold setAddHashed setAddHashedIn;refine wpAny_holding<|ae<|wpAny_setState_of (s:={s with toks:=s.toks+1}) ho hd x.fits ?_;dsimp only;rw[byScan_of (x:= .int n tk) rfl hb I,if_pos rfl];unfold setAddByScan;refine ae<|ae<|wpAny_rule<|ae<|wpAny_setScan_of (s:={s with toks:=s.toks+1}) H ho hd x.fits I ?_;have mf:=yf prog w Y J n;cases hr:es.toList.findIdx? (λe=>(intKind prog w).is n e.2) with
 |some j=>obtain⟨hj,hp,_⟩:=List.findIdx?_eq_some_iff_getElem.mp hr;have hc:hs.contains n=true:=mf.mpr ⟨_,getElem_mem hj,hp⟩;simp only[Tab23.add,hc,if_true] at c;cases c;exact ai<|ai<|hQ _ s.heap (Heap.SameBut.refl a s.heap) R
 |none=>
  have hc:¬hs.contains n=true:=λz=>by obtain⟨e,h1,h2⟩:=mf.mp z;have:=List.findIdx?_eq_none_iff.mp hr e h1;rw[show(intKind prog w).is n e.2=true from h2] at this;cases this
  simp only[Tab23.add,hc,if_false] at c;cases hf:t.freeSlot n with
  |none=>rw[hf] at c;cases c
  |some p=>
   obtain⟨j,wd⟩:=p;rw[hf] at c;dsimp only at c;cases wd with
   |true=>cases c
   |false=>
    simp only[false_eq_true,if_false] at c;split at c
    .rename_i B;rw[and_eq_true] at B;obtain⟨c1,c2⟩:=B;cases c;have U:(SetTable.insertAt es (t.put j).2 (n,Value.int n tk)).toList=es.toList.take (t.put j).2++(n,Value.int n tk)::es.toList.drop (t.put j).2:=SetTable.toList_insertAt ..
     have F:(SetTable.insertAt es (t.put j).2 (n,Value.int n tk)).size=hs.length+1:=by rw[<-length_toList,U,aE,length_cons,length_take,length_drop,length_toList,hsz];omega
     have hL:layNew t es n (.int n tk)=(SetTable.insertAt es (t.put j).2 (n,.int n tk),(t.put j).1,false,false):=by unfold layNew;rw[hf];dsimp only;unfold SetTable.orStandIn;rw[F,c1,if_pos rfl];rfl
     have hh:(intKind prog w).hash n=n:=hn;dsimp only;rw[hh,hL];dsimp only;refine ae<|ai ?_;rw[show(t.put j).1.plain=true from x.plain,if_pos rfl];refine ae<|ai ?_;rw[if_pos rfl];refine ae<|wpAny_storeSet_of (s:={s with toks:=s.toks+1}) ho hd ?_ (by rw[F,sizeLine_eq];omega)
     rw[show(!false&&(t.put j).1.tooFull)=false by simpa using c2]
     simp only[false_eq_true,if_false];refine ai<|ai<|hQ _ _ (Heap.SameBut.update s.heap a _) ⟨SetTable.insertAt es (t.put j).2 (n,.int n tk),ep+1,⟨⟨_,Heap.get?_update_self _ ho (by rw[putSet_of _ _ hd];rfl),?_⟩,by rw[F];exact c1,x.plain⟩,?_,?_⟩
     .rw[putSet_of _ _ hd];exact⟨Z,rfl⟩
     .rw[U,map_append,map_cons,map_take,map_drop,Y]
     .intro e h;rw[U] at h;rcases mem_append.mp h with h|h
      .exact J e<|List.mem_of_mem_take h
      .rcases mem_cons.mp h with rfl|h
       .exact⟨tk,rfl,hn⟩
       .exact J e<|List.mem_of_mem_drop h
    .cases c
theorem yS(c:Tab23.add (hs,t) n=some (hs',t')):hs'.length<=hs.length+1:=by
 unfold Tab23.add at c;dsimp only at c;split at c
 .cases c;omega
 .split at c
  .split at c
   .cases c
   .split at c
    .cases c;simp only[length_append,length_take,length_cons,length_drop];omega
    .cases c
  .cases c
variable{R:Result->Shared->Prop}{I S:Addr}{fp wr:List Addr}{P:Nat->Value->Prop}{St:Nat->Heap->Prop}{ns hsE:List Int}{tE:SetTable}
theorem AS(W:Walks prog w A.in1 I fp wr ns.length P St)(Y:S∉fp)(hv:∀i v,P i v->∃t:Tok,v=.int (ns.getD i 0) t)(hn:∀x∈ns,hashInt x=x)(hz:ns.length<100):
  ∀(k i:Nat)(s:Shared)(hs:List Int)(t:SetTable),ns.length - i=k->i<=ns.length->St i s.heap->s.heap.RawN S hs t->hs.length<=i->Tab23.tq (ns.drop i) (hs,t)=some (hsE,tE)->
   (∀h' tk,(∀b o,b∉wr->b≠S->s.heap.get? b=some o->h'.get? b=some o)->h'.RawN S hsE tE->R (.ok<|.ret .none) {s with heap:=h',toks:=tk})->
   codeAny (model prog w) A (.builtin "set.update.loop" ⟨[.ref S,.ref I],[]⟩) R s:=by
 intro k
 induction k with
 |zero=>
  intro i s hs t e hi st RS hl B Z;have:i=ns.length:=by omega
  subst this;rw[drop_length] at B;cases B;refine codeAny_builtin PyProof.Rows.F.entry_set_update_loop ?_;rw[Around.under_plainId PyProof.Rows.F.plain_set_update_loop _];refine ae<|W.done s _ _ st λh' tk J=>ai<|Z h' tk (λb o h1 _ q=>J b o h1 q)<|RS.at λo q=>J S o (λz=>Y<|W.sub _ z) q
 |succ k ih=>
  intro i s hs t e hi st RS hl B Z;have c:i<ns.length:=by omega
  rw[List.drop_eq_getElem_cons c] at B;unfold Tab23.tq at B;cases q:Tab23.add (hs,t) ns[i] with
  |none=>rw[q] at B;cases B
  |some p=>
   obtain⟨U,t2⟩:=p;rw[q] at B;refine codeAny_builtin PyProof.Rows.F.entry_set_update_loop ?_;rw[Around.under_plainId PyProof.Rows.F.plain_set_update_loop _];refine ae<|W.item i s _ _ c st λv h1 tk1 hP st1 H=>?_;obtain⟨t0,rfl⟩:=hv i v hP;have eg:ns.getD i 0=ns[i]:=by simp[c]
   rw[eg];refine ae<|wpAny_holding<|ur (s:={s with heap:=h1,toks:=tk1}) (RS.at λo z=>H S o (λy=>Y<|W.sub _ y) z) (hn _<|getElem_mem c) (by omega) q λb h2 sb R2=>?_
   refine ai ⟨plainId_quiet PyProof.Rows.F.plain_set_update_loop _,ih (i+1) _ U t2 (by omega) (by omega) (W.frame _ h1 _ st1 λb hb o z=>?_) R2 (by have:=yS q;omega) B λh' tk J RE=>Z h' tk (λb o n1 n2 z=>J b o n1 n2 ?_) RE⟩
   .exact(sb.2 b λy=>Y (by rw[<-y];exact hb)).trans z
   .exact(sb.2 b n2).trans<|H b o n1 z
end
structure SqN(prog:Program)(w:World)(T:String)(l:Addr)(ns:List Int)(OK:Heap->Prop):Prop where
 type:∀s:Shared,OK s.heap->s.TypeIs (.ref l) T
 keep:∀h h':Heap,OK h->(∀o,h.get? l=some o->h'.get? l=some o)->OK h'
 lt:∀h,OK h->l<h.objs.size
 sub1:isSubtype (.type T) (.type "set")=pure false
 sub2:isSubtype (.type T) (.type "frozenset")=pure false
 nd:(Value.type T==Value.type "dict")=false
 iter:∀(A:Around)(s:Shared),A.handled=none->OK s.heap->∃(oI:Obj)(St:Nat->Heap->Prop),
  (∀(E:Value->Shared->Prop)(Q:Value->Shared->Prop),Q (.ref s.heap.objs.size) {s with heap:=s.heap.push oI}->wpAny (model prog w) A (pyIter<|.ref l) Q E s)/\
  Walks prog w A s.heap.objs.size [s.heap.objs.size,l] [s.heap.objs.size] ns.length (λi v=>∃t:Tok,v=.int (ns.getD i 0) t) St/\St 0 (s.heap.push oI)
theorem Walks.weak{w:World}{A:Around}{I:Addr}{fp wr:List Addr}{n:Nat}{P c:Nat->Value->Prop}{St:Nat->Heap->Prop}(W:Walks prog w A I fp wr n P St)(k:∀i v,P i v->c i v):Walks prog w A I fp wr n c St:=
 ⟨W.sub,W.frame,λi s Q E hi st B=>W.item i s Q E hi st λv h' tk z=>B v h' tk<|k i v z,W.done,W.self⟩
theorem sub_tuple_set:isSubtype (.type "tuple") (.type "set")=pure false:=by rw[isSubtype_type];kernel_rfl
theorem jU:isSubtype (.type "tuple") (.type "frozenset")=pure false:=by rw[isSubtype_type];kernel_rfl
theorem ul{w:World}{vs:List Value}(hi:IntsAre vs ns):SqN prog w "list" l ns (λh=>h.IsList l vs.toArray):=by
 have z:=PyProof.Rows.IntsAre.length hi;refine⟨λs h=>h.typeIs,λh h' x k=>x.at λo q=>k o q,λh x=>let⟨o,ho,_⟩:=x;au ho,F.sub_list_set,F.sub_list_frozenset,by decide,λA s c x=>⟨_,λi h=>h.IsListIter s.heap.objs.size l i/\h.IsList l vs.toArray,λE Q q=>wpAny_pyIter_list x q,?_,⟨⟨_,aC _ rfl,rfl,rfl⟩,x.push _⟩⟩⟩
 have W:=Walks.list (prog:=prog) (w:=w) (A:=A) c s.heap.objs.size l (aw (let⟨o,ho,_⟩:=x;au ho)) vs.toArray;rw[show vs.toArray.size=ns.length from(size_toArray ..).trans z] at W;exact W.weak λi v h=>PyProof.Rows.IntsAre.int_at hi i v (by simpa using h)
theorem se{w:World}{vs:List Value}(hi:IntsAre vs ns):SqN prog w "tuple" l ns (λh=>h.IsTuple l vs.toArray):=by
 have z:=PyProof.Rows.IntsAre.length hi;refine⟨λs h=>h.typeIs,λh h' x k=>let⟨o,ho,r⟩:=x;⟨o,k o ho,r⟩,λh x=>let⟨o,ho,_⟩:=x;au ho,sub_tuple_set,jU,by decide,λA s c x=>⟨_,λi h=>h.IsTupleIter s.heap.objs.size l i/\h.IsTuple l vs.toArray,λE Q q=>wpAny_pyIter_tuple x q,?_,⟨⟨_,aC _ rfl,rfl,rfl⟩,x.push _⟩⟩⟩
 have W:=Walks.tuple (prog:=prog) (w:=w) (A:=A) c s.heap.objs.size l (aw (let⟨o,ho,_⟩:=x;au ho)) vs.toArray;rw[show vs.toArray.size=ns.length from(size_toArray ..).trans z] at W;exact W.weak λi v h=>PyProof.Rows.IntsAre.int_at hi i v (by simpa using h)
section
variable{prog:Program}{w:World}{A:Around}{E:Value->Shared->Prop}{s:Shared}
noncomputable abbrev jt(b:Bool):Obj:={cls:= .type "set",dict:=none,data:= .set #[] 0 (.fresh 0 0 b)}
theorem sI(a:Value){Q₁:Value->Shared->Prop}(h:Q₁ (.ref s.heap.objs.size) {s with heap:=s.heap.push (jt<|!w.params.followText "set-order")}):
  codeAny (model prog w) A (.call (.builtin "set.__new__") ⟨[.type "set",a],[]⟩) (wants Q₁ E) s:=by
 refine codeAny_of_tree (show wpAny _ A.in1 (do checkBuiltinCall "set.__new__" ⟨[.type "set",a],[]⟩;again<|.builtin "set.__new__" ⟨[.type "set",a],[]⟩) _ _ s from ?_)
 refine ae<|wpAny_of_eq (F.newCall_set_1 a)<|ai ⟨plainId_quiet F.plain_set_new _,codeAny_builtin F.entry_set_new ?_⟩;rw[Around.under_plainId F.plain_set_new _];unfold Builtin.«set.__new__» Builtin.Frozenset.newClass;have c:=sub_set_self;obtain⟨z,g,d,tk,os⟩:=s;dsimp only
 wp_walk
 refine wpAny_askSetting<|ai ?_;dsimp only;simp only[newObj];exact ae<|wpAny_alloc<|ai<|ai h
theorem qc{T:String}{t:SetTable}{OK:Heap->Prop}{Q:Value->Shared->Prop}(K:SqN prog w T l ns OK)(hh:A.handled=none)(I:OK s.heap)(hn:∀x∈ns,hashInt x=x)(hz:ns.length<100)
  (ha:Tab23.tq ns ([],.fresh 0 0<|!w.params.followText "set-order")=some (hs,t))
  (h:∀(h':Heap)(tk:Nat),h'.RawN s.heap.objs.size hs t->(∀b o,s.heap.get? b=some o->h'.get? b=some o)->Q (.ref s.heap.objs.size) {s with heap:=h',toks:=tk}):
  wpAny (model prog w) A (call (.type "set") [.ref l]) Q E s:=by
 have Y:=K.lt _ I;obtain⟨c,tl,hmro⟩:=F.called_set.mro;have U:=F.called_set.made;have hsub:=F.called_set.sub;refine wpAny_call<|codeAny_of_tree (show wpAny _ _ (callAny (.type "set") _) _ _ _ from ?_);refine ai ⟨Code.quiet_builtin _ (by decide+kernel),codeAny_builtin F.entry_type_call ?_⟩
 rw[Around.under_plain (weight_type_call_type "set" [.ref l] []) rfl];have h1:=F.called_set.notType;have h2:=F.called_set.canCreate;have hct:=F.typeCall_set_1<|.ref l
 repeat (any_goals (first|assumption|wp_step))
 refine codeAny_mono (sI (.ref l) (E:=E) (Q₁:=λobj s₁=>obj=.ref s.heap.objs.size/\s₁={s with heap:=s.heap.push (jt<|!w.params.followText "set-order")}) ⟨rfl,rfl⟩) λr s₁ J=>?_;generalize w.params.followText "set-order"=bb at ha J;cases r with
 |error e=>exact J
 |ok fl=>
  cases fl with
  |ret obj=>
   obtain⟨rfl,rfl⟩:=J;have hS:(s.heap.push<|jt<|!bb).get? s.heap.objs.size=some (jt<|!bb):=aC _ rfl;have hT:Shared.TypeIs {s with heap:=s.heap.push (jt<|!bb)} (.ref s.heap.objs.size) "set":=⟨_,hS,rfl⟩;have hli:=F.called_set.init.lookup;have hbi:=F.called_set.init.bind<|.ref s.heap.objs.size
   repeat (any_goals (first|assumption|wp_step))
   refine codeAny_mono (codeAny_call_builtin (R:=wants (λr s₂=>r=.none/\∃h' tk,s₂={s with heap:=h',toks:=tk}/\h'.RawN s.heap.objs.size hs t/\∀b o,s.heap.get? b=some o->h'.get? b=some o) E) F.called_set.init.plain F.entry_set_init<|check_set_init_1 hT ?_) λr₂ s₂ hr₂=>?_
   .have B:=K.keep s.heap (s.heap.push<|jt<|!bb) I λo q=>ah _ q;have ht:Shared.TypeIs {s with heap:=s.heap.push (jt<|!bb)} (.ref l) T:=K.type {s with heap:=s.heap.push (jt<|!bb)} B;have k1:=K.sub1;have k2:=K.sub2;have k3:=K.nd;unfold Builtin.«set.__init__» noKeywords Builtin.Frozenset.updateFrom;generalize hPI:pyIter=PI
    wp_walk
    subst hPI;obtain⟨oI,St,it,W,st⟩:=K.iter A.in1.in1.in1 {s with heap:=s.heap.push (jt<|!bb)} (by simp[hh]) B
    refine wpAny_of_in1<|it _ _<|ae<|wpAny_runValue ?_;have H:(s.heap.push<|jt<|!bb).objs.size=s.heap.objs.size+1:=Heap.size_push ..;have Z:((s.heap.push<|jt<|!bb).push oI).get? s.heap.objs.size=some (jt<|!bb):=ah _ hS;refine AS W (λz=>(mem_cons.mp z).elim (λy=>absurd (y.trans H)<|aw<|aJ _) λy=>absurd (mem_singleton.mp y)<|bd Y) (λi v q=>q) hn hz ns.length 0 _ [] _ (by omega) (zero_le _) st ⟨#[],0,⟨⟨_,Z,⟨rfl,rfl,rfl⟩,rfl⟩,rfl,rfl⟩,rfl,λe q=>by cases q⟩ (aa _) ha λh' tk hk RE=>?_
    exact ai<|ai ⟨rfl,h',tk,rfl,RE,λb o q=>hk b o (λz=>by rw[mem_singleton.mp z] at q;exact absurd (au q)<|Nat.not_lt_of_ge<|H▸le_succ _) (λz=>by subst z;exact absurd (au q)<|a8 _)<|ah _<|ah _ q⟩
   .cases r₂ with
    |error e=>exact hr₂
    |ok fl₂=>
     cases fl₂ with
     |ret r=>
      obtain⟨rfl,h',tk,rfl,h3,h4⟩:=hr₂
      repeat (any_goals (first|assumption|wp_step))
      exact h _ _ h3 h4
     |_=>exact hr₂.elim
  |_=>exact J.elim
end
end PySem
namespace PySem.W
open PySem PySem.Calls PyProof.Rows
noncomputable def slotAt(t:SetTable)(bt:Bool)(i:Nat):Nat:=if bt then 0 else match i with
 |0=>0
 |i+1=>(t.place.getD i 0)+1
def gV(t:SetTable)(n:Nat):Bool:=(range n).all (λi=>SetTable.below t.place (slotAt t false i)==i)&&(SetTable.below t.place (slotAt t false n)==n)&&(t.place.size==n)
theorem io:Slot "set_iterator" "__iter__" "set_iterator.__iter__":=
 .of (owner:= "set_iterator") (n:= "__iter__") (by rw[typeLookup_type,builtinLookup_eq_fast];kernel_rfl) (by decide+kernel) (by decide+kernel) (by decide+kernel)
  (by first|exact .inl (by decide+kernel)|exact .inr (by decide+kernel)) (by rw[isSubtype_type];kernel_rfl)
theorem k7:entryFor table "set_iterator.__iter__"=some Builtin.«dict_keyiterator.__iter__»:=entryFor_alias (id':= "dict_keyiterator.__iter__") (by kernel_rfl) rfl (by decide+kernel) (by kernel_rfl)
theorem nh(a:Value):argsOk "set_iterator.__iter__" ⟨[a],[]⟩:=by unfold argsOk;kernel_rfl
section
variable{prog:Program}{w:World}{A:Around}{E:Value->Shared->Prop}{s:Shared}{a:Addr}{es:Array (Int×Value)}{ep:Nat}{t:SetTable}
theorem uq{Q:Bool->Shared->Prop}(c:s.TypeIs (.ref a) "set")(h:Q false s):wpAny (model prog w) A (Builtin.List.listLengthHint<|.ref a) Q E s:=by
 unfold Builtin.List.listLengthHint;refine ae<|wpAny_specialOf c PySem.F.slot_set_len.lookup ?_;generalize wR:("set.__len__":String)=id0
 wp_delta
 rw[show splitId id0=some ("set","__len__") from by subst wR;decide+kernel]
 subst wR;refine ae<|wpAny_isInstance (T:= "set") (b:=true) c sub_set_self ?_;refine wpAny_ite_split (λz=>absurd z (by decide)) λ_=>wpAny_ite_split (λ_=>ae<|wpAny_typeOf c<|ai h) λz=>absurd (by decide+kernel) z
noncomputable def cL(w:World)(a:Addr)(es:Array (Int×Value))(ep:Nat):List (Int×Value):=if w.params.followText "set-order"=true then(pickOrder (w.params.setOrder a ep) es).toList else es.toList
theorem fV:List.Perm (cL w a es ep) es.toList:=by
 unfold cL;split
 .exact sA _ _
 .exact .refl _
theorem sf(hh:A.handled=none)(I:Addr)(U:a≠I)(hl:w.params.followText "set-order"=false->t.led=true/\gV t es.size=true):
  Walks prog w A I [I,a] [I] es.size (λi v=>∃h,(cL w a es ep)[i]? =some (h,v)) (λi h=>h.RawSI I a (slotAt t (w.params.followText "set-order") i) i es.size ep/\h.RawS a es ep t) where
 sub:=λb c=>by simp at c;simp[c]
 frame:=λ_ _ _ st hk=>⟨let⟨o,ho,r⟩:=st.1;⟨o,hk I (by simp) o ho,r⟩,st.2.at λo q=>hk a (by simp) o q⟩
 item:=λi s Q E hi st F=>by
  obtain⟨it,x⟩:=st;have hz:(cL w a es ep).length=es.size:=by rw[fV.length_eq,length_toList]
  have Y:(cL w a es ep)[i]? =some ((cL w a es ep)[i]'(by omega)):=af (by omega)
  refine xt (v:=((cL w a es ep)[i]'(by omega)).2) (sl':=slotAt t (w.params.followText "set-order")<|i+1) it x (λE' Q' q=>?_) λh' J sb=>F _ h' s.toks ⟨_,Y⟩ ⟨J,x.at λo z=>(sb.2 a U).trans z⟩ λb o c z=>sb.extBut b o (λy=>c (by simp[y])) z
  cases c:w.params.followText "set-order" with
  |true=>
   refine jY c x ?_;have e:(cL w a es ep)=(pickOrder (w.params.setOrder a ep) es).toList:=by unfold cL;rw[if_pos c]
   have e2:(pickOrder (w.params.setOrder a ep) es)[i]? =some ((cL w a es ep)[i]'(by omega)):=by rw[<-Array.getElem?_toList,<-e];exact Y
   rw[e2];rw[c] at q;exact q
  |false=>
   obtain⟨l1,l2⟩:=hl c;unfold gV at l2;rw[and_eq_true,and_eq_true,all_eq_true] at l2;obtain⟨⟨l2,H⟩,l4⟩:=l2;have l5:SetTable.below t.place (slotAt t false i)=i:=by simpa using l2 i (mem_range.mpr hi)
   have l6:t.place.size=es.size:=by simpa using l4
   have e:(cL w a es ep)=es.toList:=by unfold cL;rw[if_neg (by rw[c];decide)]
   have B:i<t.place.size:=by omega
   rw[c] at q;refine pv (h:=((cL w a es ep)[i]'(by omega)).1) (j:=t.place[i]) c l1 x (by rw[l5,<-Array.getElem?_toList,<-e];exact Y) (by rw[l5];simp[B]) ?_
   have:slotAt t false (i+1)=t.place[i]+1:=by simp[slotAt,B]
   rw[<-this];exact q
 done:=λs Q E st F=>by
  obtain⟨it,x⟩:=st;have hz:(cL w a es ep).length=es.size:=by rw[fV.length_eq,length_toList]
  refine zZ hh it x (λE' Q' q=>?_) λh' he=>F h' s.toks λb o c z=>he b o (λy=>c (by simp[y])) z
  cases c:w.params.followText "set-order" with
  |true=>
   refine jY c x ?_;have e:(cL w a es ep)=(pickOrder (w.params.setOrder a ep) es).toList:=by unfold cL;rw[if_pos c]
   have e2:(pickOrder (w.params.setOrder a ep) es)[es.size]? =none:=by rw[<-Array.getElem?_toList,<-e];exact a_ (by omega)
   rw[e2];exact q
  |false=>
   obtain⟨l1,l2⟩:=hl c;unfold gV at l2;rw[and_eq_true,and_eq_true,all_eq_true] at l2;obtain⟨⟨_,H⟩,_⟩:=l2;have H:SetTable.below t.place (slotAt t false es.size)=es.size:=by simpa using H
   exact pw c l1 x (by rw[H];simp) q
 self:=λi s Q E st F=>by have Z:=st.1.ty;refine wpAny_pyIter_slot Z io<|wpAny_call_entry io Z k7 (show wpAny _ _ (ret<|.ref I) _ _ s from ai ⟨_,rfl,"set_iterator",_,Z,c6.lookup,F⟩)<|nh _
theorem xu(z:w.params.followText "set-order"=false->t.led=true/\gV t es.size=true):KdlSrc prog w "set" a a es.size (λi v=>∃h,(cL w a es ep)[i]? =some (h,v)) (λh=>h.RawS a es ep t) where
 type:=λ_ x=>x.ty
 there:=λ_ x=>⟨let⟨_,ho,_⟩:=x.ob;au ho,let⟨_,ho,_⟩:=x.ob;au ho⟩
 keep:=λ_ _ x B=>x.at λo e=>B a (.inl rfl) o e
 notList:=by decide
 notTuple:=by decide
 hint:=λ_ _ _ _ x c=>uq x.ty c
 iter:=λA s F x=>⟨_,_,λ_ _ c=>uo x c,sf (t:=t) (ep:=ep) F _ (let⟨_,ho,_⟩:=x.ob;aw<|au ho) z,⟨⟨_,aC _ rfl,rfl,by simp[slotAt]⟩,x.at λo q=>ah _ q⟩⟩
end
end PySem.W
namespace Tab23
noncomputable def insI(x:Int):List Int->List Int
 |[]=>[x]
 |y::r=>if x<=y then x::y::r else y::insI x r
noncomputable def dX:List Int->List Int
 |[]=>[]
 |x::r=>insI x<|dX r
def iq(ns:List Int):List Int:=dX<|ns.foldl (λl x=>if l.contains x then l else l++[x]) []
theorem insI_perm(x:Int):∀l,(insI x l).Perm (x::l)
 |[]=>.refl _
 |y::r=>by
  unfold insI;split
  .exact .refl _
  .exact((insI_perm x r).cons y).trans<|.swap ..
theorem dR:∀l,(dX l).Perm l
 |[]=>.refl _
 |x::r=>(insI_perm x _).trans<|(dR r).cons x
theorem rh(x:Int):∀l:List Int,l.Pairwise (· <= ·)->(insI x l).Pairwise (· <= ·)
 |[],_=>by simp[insI]
 |y::r,h=>by
  have h':=pairwise_cons.mp h;unfold insI;split
  .rename_i B;refine pairwise_cons.mpr ⟨λz c=>?_,h⟩;rcases mem_cons.mp c with rfl|c
   .exact B
   .exact Int.le_trans B<|h'.1 z c
  .rename_i B;refine pairwise_cons.mpr ⟨λz c=>?_,rh x r h'.2⟩;rcases mem_cons.mp ((insI_perm x r).mem_iff.mp c) with rfl|c
   .omega
   .exact h'.1 z c
theorem qx:∀l:List Int,(dX l).Pairwise (· <= ·)
 |[]=>.nil
 |x::r=>rh x _<|qx r
theorem qo:∀{a b:List Int},a.Perm b->a.Pairwise (· <= ·)->b.Pairwise (· <= ·)->a=b
 |[],b,p,_,_=>(perm_nil.mp p.symm).symm▸rfl
 |x::a,[],p,_,_=>by cases(perm_nil.mp p)
 |x::a,y::b,p,ha,hb=>by
  have z:=pairwise_cons.mp ha;have c:=pairwise_cons.mp hb
  have e:x=y:=by
   have h1:x∈y::b:=p.mem_iff.mp<|.head _;have h2:y∈x::a:=p.mem_iff.mpr<|.head _;rcases mem_cons.mp h1 with e|h1
   .exact e
   .rcases mem_cons.mp h2 with e|h2
    .exact e.symm
    .have:=z.1 y h2;have:=c.1 x h1;omega
  subst e;rw[qo (List.Perm.cons_inv p) z.2 c.2]
theorem qy{a b:List Int}(p:a.Perm b)(h:a.Pairwise (· <= ·)):a=dX b:=qo (p.trans (dR b).symm) h<|qx b
def DW(led:Bool)(xs:List Int):Bool:=match tq xs ([],.fresh 0 0 led) with
 |some (hs,t)=>PySem.W.gV t hs.length&&(t.led==led)&&dX hs==iq xs&&xs.all (λx=>PySem.hashInt x==x)&&decide (hs.length<=2)
 |none=>false
theorem FW:((all 2).all (DW true)&&(all 2).all (DW false))=true:=by decide+kernel
theorem jJ:∀{n:Nat}{xs:List Int},xs.length<=n->(∀x∈xs,0<=x/\x<10)->xs∈all n
 |0,xs,h,_=>by
  have:xs=[]:=length_eq_zero_iff.mp (by omega)
  subst this;exact .head _
 |n+1,xs,h,hb=>by
  unfold all;rw[mem_append];by_cases hl:xs.length<=n
  .exact .inl<|jJ hl hb
  .right;cases xs with
   |nil=>simp at hl
   |cons x r=>
    have z:r.length=n:=by simp at h hl;omega
    have B:=hb x<|.head _;rw[List.mem_flatMap];refine⟨r,mem_filter.mpr ⟨jJ (by omega) λy c=>hb y<|.tail _ c,by simpa using z⟩,mem_map.mpr ⟨x.toNat,mem_range.mpr (by omega),?_⟩⟩
    have:((x.toNat:Nat):Int)=x:=by omega
    rw[this]
theorem CQ(c:Bool){xs:List Int}(h:xs.length<=2)(B:∀x∈xs,0<=x/\x<10):∃hs t,tq xs ([],.fresh 0 0 c)=some (hs,t)/\PySem.W.gV t hs.length=true/\t.led=c/\dX hs=iq xs/\(∀x∈xs,PySem.hashInt x=x)/\hs.length<=2:=by
 have k:=FW;rw[and_eq_true,all_eq_true,all_eq_true] at k
 have z:DW c xs=true:=by
  cases c with
  |true=>exact k.1 xs<|jJ h B
  |false=>exact k.2 xs<|jJ h B
 unfold DW at z;split at z
 .rename_i hs t e;simp only[and_eq_true,all_eq_true,beq_iff_eq,decide_eq_true_eq] at z;exact⟨hs,t,e,z.1.1.1.1,z.1.1.1.2,z.1.1.2,z.1.2,z.2⟩
 .cases z
end Tab23
namespace PySem.W
open PySem PySem.Calls PyProof.Rows Tab23
section
variable{prog:Program}{w:World}{A:Around}{E:Value->Shared->Prop}{s:Shared}
theorem rg:∀{l:List (Int×Value)},(∀e∈l,∃k:Tok,e.2=.int e.1 k/\hashInt e.1=e.1)->IntsAre (l.map (·.2)) (l.map (·.1))
 |[],_=>.nil
 |e::r,h=>by obtain⟨k,h1,_⟩:=h e<|.head _;rw[map_cons,map_cons,h1];exact .cons _ _<|rg λx c=>h x<|.tail _ c
theorem pj{a:Addr}{hs:List Int}{t:SetTable}{Q:Value->Shared->Prop}(I:A.handled=none)(R:s.heap.RawN a hs t)(Y:hs.length<64)(hl:w.params.followText "set-order"=false->t.led=true)(hw:gV t hs.length=true)
  (h:∀(h':Heap)(tk:Nat)(D:Addr)(out:Array Value)(c:Nat),(∀b o,s.heap.get? b=some o->h'.get? b=some o)->s.heap.get? D=none->h'.get? D=some (seqObj "list" out c)->IntsAre out.toList (dX hs)->Q (.ref D) {s with heap:=h',toks:=tk}):
  wpAny (model prog w) A (call (.builtin "sorted") [.ref a]) Q E s:=by
 obtain⟨es,ep,x,H,he⟩:=R;have hsz:es.size=hs.length:=by rw[<-H,length_map,length_toList]
 have K:=xu (prog:=prog) (w:=w) (a:=a) (es:=es) (ep:=ep) (t:=t) λz=>⟨hl z,by rw[hsz];exact hw⟩
 refine call_function_entry kind_sorted plain_sorted entry_sorted (args_sorted1 _) ?_;unfold Builtin.«sorted»;refine ae (m:=checkCount "sorted" 1 1 _)<|ai<|ae<|kdu_collect (A:=A.in1) K I x (by rw[sizeLine_eq];omega) λh' tk acc F B=>?_
 have e1:acc.toList=(cL w a es ep).map (·.2):=by
  have Y:(cL w a es ep).length=es.size:=by rw[fV.length_eq,length_toList]
  refine List.ext_getElem? λj=>?_;by_cases hj:j<acc.toList.length
  .have J:acc.toList[j]? =some (acc.toList[j]):=af hj;obtain⟨I,e⟩:=B.2 j _ (by rw[<-Array.getElem?_toList];exact J)
   rw[J,aj,e];rfl
  .have:es.size<=j:=by rw[length_toList,B.1] at hj;omega
   rw[a_ (by omega),a_ (by rw[length_map];omega)]
 have hI:IntsAre acc.toList ((cL w a es ep).map (·.1)):=by rw[e1];exact rg λe q=>he e<|fV.mem_iff.mp q
 have Z:((cL w a es ep).map (·.1)).Perm hs:=by rw[<-H];exact fV.map _
 have hn:acc.toList.length<64:=by rw[length_toList,B.1];omega
 refine ae<|wpAny_newList ?_ (by rw[sizeLine_eq];omega)
 have ho:(h'.push<|seqObj "list" acc.toList.toArray 0).get? h'.objs.size=some (seqObj "list" acc.toList.toArray 0):=aC _ rfl;refine ae<|wpAny_holding<|wpAny_call_entry slot_list_sort ⟨_,ho,rfl⟩ entry_list_sort (list_sort_tree ho hI hn λout U a1 a2 a3=>⟨_,rfl,?_⟩)<|args_list_sort _;obtain⟨c,hc⟩:=sortedHeap_at (out:=out) ho
 have hb:s.heap.get? h'.objs.size=none:=by
  cases e:s.heap.get? h'.objs.size with
  |none=>rfl
  |some o=>exact absurd (au<|F _ _ e)<|a8 _
 refine ai ⟨_,rfl,h _ tk h'.objs.size out c (λb o q=>?_) hb hc (by rw[<-qy (a2.trans Z) a3];exact a1)⟩
 have q2:=F b o q;rw[sortedHeap_old (aw<|au q2) (by rw[Heap.size_push];exact lt_succ_of_lt<|au q2)]
 exact ah _ q2
end
end PySem.W
namespace L2
open PySem PySem.Spec PyProof.Rows
variable{h h':Heap}
section
variable{X:Cx}{pins:List (Addr×Obj)}{W:St}{H H':Hp}{s:Shared}{h':Heap}
theorem Inv.grown{t':Nat}(I:Inv X pins W H s)(k:∀b u,s.heap.get? b=some u->h'.get? b=some u)(B:∀b u,H b=some u->H' b=some u)(J:∀b o,s.heap.get? b=some o->H b=none->H' b=none)
  (F:∀b u,H' b=some u->H b=none->bQ X.prog X.w H' h' b u):Inv X pins W H' {s with heap:=h',toks:=t'}:=by
 refine I.un ⟨λb o q _ _ _=>k b o q,λb o q _ _ _=>⟨o.slots,k b o q⟩,λb o q n _=>J b o q n,λb o q _=>⟨o,k b o q⟩,λb xs q=>B b _ q,λb o u q=>B b _ q,λb ps q=>⟨#[],by rw[B b _ q];simp⟩⟩ λb u e=>?_
 cases q:H b with
 |none=>exact F b u e q
 |some u'=>
  have:u'=u:=by have:=B b u' q;rw[e] at this;exact(ak this).symm
  subst this;exact(I.hok b u' q).stay (λc v _ z=>k c v z) (λc z=>B c _ z) λc xs z=>B c _ z
end
theorem bQ.here{P:Program}{w:World}{H:Hp}{a:Addr}:∀{o:HO},bQ P w H h a o->∃u,h.get? a=some u
 | .lst _,x=>by obtain⟨_,_,_,_,e⟩:=x;exact⟨_,e⟩
 | .tup _,x=>by obtain⟨_,_,_,u,e,_⟩:=x;exact⟨u,e⟩
 | .dK _,x=>by obtain⟨_,_,_,_,u,_,_,e,_⟩:=x;exact⟨u,e⟩
 | .dT _,x=>by obtain⟨_,_,_,_,u,_,_,e,_⟩:=x;exact⟨u,e⟩
 | .set _ _,x=>by obtain⟨u,_,_,_,e,_⟩:=x;exact⟨u,e⟩
 | .ins _ _ _,x=>by obtain⟨_,_,_,e,_⟩:=x;exact⟨_,e⟩
 | .own _,x=>x
 | .xd _,x=>by obtain⟨_,⟨u,_,_,e,_⟩,_⟩:=x;exact⟨u,e⟩
 | .rng _ _,x=>by obtain⟨_,_,_,e⟩:=x;exact⟨_,e⟩
 | .frz _ _,x=>⟨_,x.1⟩
 | .tbl _,x=>⟨_,x⟩
 | .met _ _,x=>⟨_,x⟩
 | .ext _,x=>x.2.1
open PySem PySem.Spec PyProof.Rows Tab23
section
variable{X:Cx}
theorem lI{pins:List (Addr×Obj)}{W:St}{H:Hp}{s:Shared}{tk:Nat}{D:Addr}{out:Array Value}{c:Nat}{ns:List Int}{Q:VK}(I:Inv X pins W H s)(k:∀b u,s.heap.get? b=some u->h'.get? b=some u)(F:s.heap.get? D=none)
  (J:h'.get? D=some (seqObj "list" out c)) (hi:IntsAre out.toList ns)(U:ns.length<64)(q:∀l,H l=none->Q (.ref l) (upd H l<|.lst<|ns.map V.int)):EP X pins W Q (.ref D) {s with heap:=h',toks:=tk}:=by
 have B:H D=none:=by
  cases q:H D with
  |none=>rfl
  |some u=>obtain⟨o,ho⟩:=(I.hok D u q).here;rw[F] at ho;cases ho
 refine⟨.ref D,_,I.grown (H':=upd H D<|.lst<|ns.map V.int) (t':=tk) k (λb u e=>?_) (λb o e n=>?_)<|λb u e n=>?_,rfl,q D B⟩
 .rw[aI (λz=>by subst z;rw[B] at e;cases e)];exact e
 .rw[aI (λz=>by subst z;rw[F] at e;cases e)];exact n
 .by_cases hb:b=D
  .subst hb;rw[bf] at e;cases e;exact⟨by rw[length_map,sizeLine_eq];omega,out.toList,c,iT hi,by rw[Array.toArray_toList];exact J⟩
  .rw[aI hb,n] at e;cases e
theorem mX:eM X (.builtin "sorted") (λxs H Q=>∃p ns,xs=[.ref p]/\dO X.K H p (ns.map V.int)/\ns.length<64/\∀l,H l=none->Q (.ref l) (upd H l<|.lst<|(dX ns).map V.int)):=by
 intro pins s W H xs us Q I r h;obtain⟨p,ns,rfl,Z,Y,q⟩:=h;obtain⟨u,rfl,B⟩:=vals1 r;cases B;obtain⟨its,F,J,_⟩:=I.list Z;have hi:=intsAre_of F;have hl:=hi.length;refine sorted_ints J.isList hi (by omega) λout U a1 z a3=>?_
 obtain⟨c,hc⟩:=sortedAll_at s.heap its out;rw[<-qy z a3] at q;exact lI (tk:=s.toks) I (λb o e=>sortedAll_old e) (Heap.get?_none_of_le<|le_succ _) hc a1 (by rw[z.length_eq];exact Y) q
def EJ(K:aF)(x:V)(H:Hp)(Q:VK):Prop:=∃p ns,x=.ref p/\(dO K H p (ns.map V.int)∨fP K H p (ns.map V.int))/\ns.length<=2/\(∀n∈ns,0<=n/\n<10)/\∀l,H l=none->Q (.ref l) (upd H l<|.lst<|(iq ns).map V.int)
def B9(K:aF)(te:TE):TE:=λW H Q=>te W H λx H1=>EJ K x H1 Q
theorem xP{e:Expr}{te:TE}{p1 p2 q1 q2:Pos}(hc:X.calm=true)(hg:Gl X "sorted")(hm:X.mg "sorted"=none)(hg2:Gl X "set")(Z:X.mg "set"=none)(he:PE X e te)(B:starEach [e] X.env=[(false,eval e X.env)]):
  PE X (.Call (.Name "sorted" p1) [.Call (.Name "set" p2) [e] [] q2] [] q1) (B9 X.K te):=by
 intro pins s W H Q I h;refine wpAny_Call_Name_kw<|ft I hg hm boot_sorted<|PyProof.Rows.callWith_builtin1 ?_ rfl rfl;show wpAny _ _ (spliced<|(false,eval (.Call (.Name "set" p2) [e] [] q2) X.env)::backTo q1 (starEach [] X.env)) _ _ s;refine Calls.spliced_cons<|wpAny_Call_Name_kw<|ft I hg2 Z boot_set<|a7 ?_ B rfl;rw[B];refine Calls.spliced_cons<|bZ (he pins s W H _ I h) λv J hp=>?_;obtain⟨x,H1,I1,r1,p,ns,ex,F,h2,hb,q⟩:=hp;subst ex;cases r1;refine Calls.spliced_nil ?_;obtain⟨hs,t,a1,a2,a3,a4,a5,hsz⟩:=CQ (!X.w.params.followText "set-order") h2 hb;have hh:=I.ok.hd hc;have hsl:hs.length=(iq ns).length:=by rw[<-a4,(dR hs).length_eq]
 have go:∀{T:String}{OK:Heap->Prop},SqN X.prog X.w T p ns OK->OK J.heap->wpAny (model X.prog X.w) X.A (call (.type "set") [.ref p]) (λv s2=>wpAny (model X.prog X.w) X.A (spliced<|backTo q1<|starEach [] X.env) (λvs s3=>wpAny (model X.prog X.w) X.A (call (.builtin "sorted")<|v::vs) (EP X pins W Q) X.xe s3) X.xe s2) X.xe J:=λK ok=>by
  refine qc K hh ok a5 (by omega) a1 λh' tk R k=>Calls.spliced_nil ?_
  refine PySem.W.pj hh R (by omega) (λz=>by rw[a3,z];rfl) a2 λh2 tk2 D out c k2 hD hc2 hi=>?_
  rw[a4] at hi;show EP X pins W Q (.ref D) {J with heap:=h2,toks:=tk2};refine lI (tk:=tk2) I1 (λb u e=>k2 b u<|k b u e) ?_ hc2 hi (by omega) q
  cases z:J.heap.get? D with
  |none=>rfl
  |some o=>exact nomatch (show h'.get? D=none from hD).symm.trans (k D o z)
 rcases F with F|F
 .obtain⟨its,U,Y,_⟩:=I1.list F;exact go (ul<|intsAre_of U) Y.isList
 .obtain⟨its,U,Y,_⟩:=I1.tuple F;exact go (se<|intsAre_of U) Y
end
theorem Inv.turnLaid{X:Cx}{pins:List (Addr×Obj)}{W:St}{H:Hp}{s:Shared}{t':Nat}{fp:List Addr}{p:Addr}{xs:List V}(I:Inv X pins W H s)(Z:∀b∈fp,iP X pins H b)
  (k:∀b o,b∉fp->s.heap.get? b=some o->h'.get? b=some o)(hp:s.heap.objs.size<=p)(new:bQ X.prog X.w (upd H p<|.tup xs) h' p (.tup xs)):Inv X pins W (upd H p<|.tup xs) {s with heap:=h',toks:=t'}:=by
 have J:H p=none:=I.hok.fresh hp;have F:∀b u,H b=some u->b∉fp:=λb u e z=>by rw[(Z b z).1] at e;cases e
 have Y:∀{b:Addr}{o:Obj},s.heap.get? b=some o->b≠p:=λe=>aw<|ao (au e) hp
 refine I.step (g':=s.gens) (d':=s.drawn) (ch:=fp) (λb U=>?_) (λb o _ _ B e _=>k b o B e) (λb o _ _ B e _=>⟨o.slots,k b o B e⟩) (λb o _ e n=>by rw[aI<|Y e];exact n)
  (λb o B e=>⟨o,k b o B e⟩) (λb ys e=>by rw[aI<|aN e J];exact e) (λb o u e=>by rw[aI<|aN e J];exact e) (λb ps e=>⟨#[],by rw[aI<|aN e J,e];simp⟩) (λm hm=>?_) (λb u e=>?_) I.bare
 .obtain⟨f0,f1,f2,f3,f4,f5⟩:=Z b U;exact⟨f3,f1,f4,f5⟩
 .obtain⟨o,es,ep,ho,r⟩:=hm;exact⟨o,es,ep,k _ o (λz=>(Z _ z).2.1 rfl) ho,r⟩
 .by_cases U:b=p
  .subst U;rw[bf] at e;cases e;exact new
  .rw[aI U] at e;refine(I.hok b u e).stay (λc v B q=>k c v ?_ q) (λc q=>by rw[aI<|aN q J];exact q) λc ys q=>by rw[aI<|aN q J];exact q
   rcases B with z|z
   .rw[z];exact F b u e
   .exact F c _ z
noncomputable def Ft(K:aF)(a:Addr):It:=
 ⟨λi H=>∃xs x,dO K H a xs/\xs[i]? =some x,
  λi H v H'=>∃p x,v=.ref p/\H p=none/\H'=upd H p (.tup [.int (i:Int),x])/\∀xs,dO K H a xs->xs[i]? =some x,
  λi H=>∃xs,dO K H a xs/\xs.length<=i⟩
noncomputable def Fb(e it a:Addr)(i:Nat)(h:Heap):Prop:=(∃old,IsEnum h e it (i:Int) old)/\h.IsListIter it a i
theorem rX{P:Program}{w:World}{K:aF}{elts:List Expr}{k:Nat}{pos:Pos}(a e it:Addr)(Y:e≠it):Turn P w K (.Tuple elts k pos) (Ft K a) [e,it] e (Fb e it a) where
 mem:=by simp
 obj:=λi h st b B=>by
  obtain⟨⟨old,U⟩,o,ho,c,d⟩:=st;rcases mem_cons.mp B with rfl|B
  .exact⟨_,U,λv z=>by have z':Data.fields _=Data.cell v:=z;cases z'⟩
  .have:b=it:=by simpa using B
   subst this;exact⟨o,ho,λv z=>by rw[d] at z;cases z⟩
 keep:=λi h h' ⟨⟨old,U⟩,st⟩ kk=>⟨⟨old,kk e (by simp) _ U⟩,st.at λo q=>kk it (by simp) o q⟩
 item:=by
  intro X hP hw hK hc i pins s W H E I hf st hg;subst hP hw hK;obtain⟨⟨old,U⟩,J⟩:=st;obtain⟨xs,x,hq,hx⟩:=hg;obtain⟨its,rv,p,hz⟩:=I.list hq;obtain⟨u,hu,ru⟩:=rv.get hx;refine wpAny_pyNext_enum_item U J p.isList (x:=u) (by simpa using hu) Y λh1 heo Z ht1 hz1 hk1=>?_
  refine⟨_,rfl,wpAny_letOwnedTupleGo_enum heo λh2 he2 F=>?_⟩
  replace F:Heap.SameBut e h1 h2:=F
  have lt:=au U;have ht2:h2.get? s.heap.objs.size=some {cls:= .type "tuple",data:= .seq #[.int i s.toks,u]}:=(F.2 _<|bd lt).trans ht1;have hn:H s.heap.objs.size=none:=I.hok.fresh<|aa _
  have I2:Inv X pins W (upd H s.heap.objs.size<|.tup [.int (i:Int),x]) {s with heap:=h2,toks:=s.toks+1}:=by
   refine I.turnLaid (fp:=[e,it]) hf (λb o B q=>?_) (aa _) ⟨(by show 2<=sizeLine;decide),[.int i s.toks,u],.cons ⟨_,rfl⟩<|.cons ru .nil,?_⟩
   .have hbe:b≠e:=λz=>B (by simp[z])
    have hbi:b≠it:=λz=>B (by simp[z])
    exact(F.2 b hbe).trans<|hk1 b o hbe hbi q
   .exact⟨_,ht2,⟨rfl,rfl⟩,_,rfl⟩
  refine⟨.ref s.heap.objs.size,_,I2,rfl,⟨_,x,rfl,hn,rfl,λys hy=>by rw[I.list_inj hy hq];exact hx⟩,⟨⟨u,?_⟩,?_⟩,λb B=>?_⟩
  .have:((i+1:Nat):Int)=(i:Int)+1:=by omega
   rw[this];exact he2
  .exact Z.at λo q=>(F.2 it<|Ne.symm Y).trans q
  .obtain⟨f0,_⟩:=hf b B
   have:b≠s.heap.objs.size:=by
    rcases mem_cons.mp B with rfl|B
    .exact aw lt
    .have:b=it:=by simpa using B
     subst this;obtain⟨o,ho,_⟩:=J;exact aw<|au ho
   rw[aI this];exact f0
 done:=by
  intro X hP hw hK hc i pins s W H E I hf st hg;subst hP hw hK;obtain⟨⟨old,U⟩,J⟩:=st;obtain⟨xs,hq,hx⟩:=hg;obtain⟨its,rv,p,hz⟩:=I.list hq;obtain⟨f0,f1,f2,f3,f4,f5⟩:=hf it (by simp)
  have hl:=rv.length;exact wpAny_pyNext_enum_end (I.ok.hd hc) U J p.isList (by simp;omega) λh' eb=>⟨rfl,I.turned (t':=s.toks) (λb o B e=>eb b o B e) f0 f1 f3 f4 f5⟩
 self:=λ_ _ _ _ _ st h=>wpAny_pyIter_enum st.1.choose_spec h
section
variable{X:Cx}{pins:List (Addr×Obj)}{W:St}{H:Hp}{s:Shared}{a:Addr}{o:Obj}{kvs:List (Key×V)}
theorem Inv.swapD{u B:HO}(I:Inv X pins W H s)(e:H a=some u)(J:∀xs,u≠ .tup xs)(U:∀x,u≠ .own x)(nt:∀ps,u≠ .tbl ps)(Y:∀o w,X.H₀ a≠some (.frz o w))(new:bQ X.prog X.w (upd H a B) s.heap a B):Inv X pins W (upd H a B) s:=by
 have na:∀{b:Addr},H b=none->b≠a:=λq z=>by rw[z,e] at q;cases q
 refine⟨I.ok,I.os,I.bare,⟨I.base.keep,I.base.slot,λb F q n Z=>?_,I.base.there,λb xs q=>?_,λb F w q=>?_,λb ps q=>?_⟩,I.loc,I.cell,?_,λx c q=>?_,λp hp=>?_,λb w q=>?_,I.len⟩
 .have z:=I.base.free b F q n Z;rw[aI<|na z];exact z
 .have z:=I.base.tups b xs q;rw[aI<|cm z e λy=>J _ y.symm];exact z
 .have z:=I.base.frzs b F w q;refine(aI λy=>?_).trans z;rw[y] at q;exact Y _ _ q
 .obtain⟨m,z⟩:=I.base.tbls b ps q;exact⟨m,by rw[aI<|cm z e λy=>nt _ y.symm];exact z⟩
 .rw[aI<|na I.free];exact I.free
 .rw[aI<|na<|I.freeC x c q];exact I.freeC x c q
 .obtain⟨h1,h2,h3⟩:=I.pin p hp;exact⟨h1,by rw[aI<|na h2];exact h2,h3⟩
 .by_cases hb:b=a
  .subst hb;rw[bf] at q;cases q;exact new
  .rw[aI hb] at q;exact(I.hok b w q).stay (λ_ _ _ z=>z) (λc z=>by rw[aI<|cm z e λy=>U _ y.symm];exact z) λc xs z=>by rw[aI<|cm z e λy=>J _ y.symm];exact z
theorem Inv.freezeD(I:Inv X pins W H s)(e:H a=some (.dK kvs))(ho:s.heap.get? a=some o):Inv X pins W (upd H a<|.frz o<|.dK kvs) s:=
 I.swapD e (λ_ z=>nomatch z) (λ_ z=>nomatch z) (λ_ z=>nomatch z) (λo' w z=>by rw[I.base.frzs _ _ _ z] at e;cases e) ⟨ho,I.hok a _ e⟩
theorem Inv.thawD(I:Inv X pins W H s)(e:H a=some (.frz o<|.dK kvs))(c:∀o w,X.H₀ a≠some (.frz o w)):Inv X pins W (upd H a<|.dK kvs) s:=
 I.swapD e (λ_ z=>nomatch z) (λ_ z=>nomatch z) (λ_ z=>nomatch z) c (show bQ _ _ H s.heap a (.frz o<|.dK kvs) from I.hok a _ e).2
theorem Inv.nofrzD(I:Inv X pins W H s)(e:H a=some (.dK kvs)):∀o' w,X.H₀ a≠some (.frz o' w):=λo' w z=>by rw[I.base.frzs _ _ _ z] at e;cases e
end
def tw(X:Cx)(Q:Hp->Prop)(H:Hp):Prop:=∃a o kvs,H a=some (.frz o<|.dK kvs)/\(∀o w,X.H₀ a≠some (.frz o w))/\Q (upd H a<|.dK kvs)
theorem PE.thawD{X:Cx}{e:Expr}{t:TE}(h:PE X e t):PE X e λW H Q=>t W H λv H1=>tw X (Q v) H1:=λpins s W H Q I q=>
 bZ (h pins s W H _ I q) λu c ⟨x,H1,I1,r1,a,o,kvs,e,nf,q2⟩=>⟨x,_,I1.thawD e nf,r1,q2⟩
theorem p8{P:Program}{w:World}{H:Hp}{a:Addr}{kvs:List (Key×V)}(x:bQ P w H h a (.dK kvs)):∃o es ep vs,h.get? a=some o/\o.ExactDict/\o.data=.dict es ep/\KV kvs vs/\Pairs (bF P w) es.toList vs/\es.size=kvs.length/\(a==sysModules)=false:=by
 obtain⟨z,y,vs,r,o,es,ep,h1,h2,B,I,c,F⟩:=x;exact⟨o,es,ep,vs,h1,h2,B,r,c,by rw[<-length_toList,c.length,<-r.length],y⟩
end L2
namespace PySem.W
open PySem PySem.Calls PyProof.Rows Tab23
section
end
end PySem.W
namespace L2
open PySem PySem.Spec PyProof.Rows Tab23
end L2
namespace Tab23
open PySem PySem.Spec PyProof.Rows
noncomputable def ze(a b:Str):Bool:= !ltCps b.cps.toList a.cps.toList
def yo(x:Str):List Str->List Str
 |[]=>[x]
 |y::r=>if ze x y then x::y::r else y::yo x r
def eB:List Str->List Str
 |[]=>[]
 |x::r=>yo x<|eB r
theorem lK(x:Str):∀l,(yo x l).Perm (x::l)
 |[]=>.refl _
 |y::r=>by
  unfold yo;split
  .exact .refl _
  .exact((lK x r).cons y).trans<|.swap x y r
theorem e_:∀l,(eB l).Perm l
 |[]=>.refl _
 |x::r=>(lK x _).trans<|(e_ r).cons x
theorem iC{a b:Str}:ze a b=true↔a.cps.toList<=b.cps.toList:=by unfold ze;rw[ltCps_eq];simp
theorem j2:∀(p:Str)(l:List Str),risingS p l=true->(∀x∈l,ze p x=true)/\l.Pairwise λa b=>ze a b=true
 |p,[],_=>⟨λ_ h=>(nomatch h),.nil⟩
 |p,x::r,h=>by
  have h':ze p x=true/\risingS x r=true:=by simpa[risingS,ze] using h
  obtain⟨h1,h2⟩:=j2 x r h'.2;refine⟨λy c=>?_,pairwise_cons.mpr ⟨h1,h2⟩⟩;rcases mem_cons.mp c with rfl|c
  .exact h'.1
  .exact iC.mpr<|List.le_trans (iC.mp h'.1)<|iC.mp<|h1 y c
theorem jV{l:List Str}(h:sortedS l=true):l.Pairwise λa b=>ze a b=true:=by
 cases l with
 |nil=>exact .nil
 |cons x r=>exact pairwise_cons.mpr<|j2 x r h
theorem xm{a b:List Str}(p:a.Perm b)(h:sortedS a=true)(k:sortedS (eB b)=true):a=eB b:=by refine List.Perm.eq_of_pairwise (λx y _ _ h1 h2=>?_) (jV h) (jV k)<|p.trans (e_ b).symm;have:=List.le_antisymm (iC.mp h1)<|iC.mp h2;cases x;cases y;exact congrArg Str.mk<|Array.toList_inj.mp this
end Tab23
namespace PySem.W
open PySem PySem.Calls PyProof.Rows Tab23
section
variable{prog:Program}{w:World}{A:Around}{E:Value->Shared->Prop}{s:Shared}
theorem r8{ns:List Str}{acc:List Value}(c:acc.length=ns.length)(h:∀(j:Nat)(v:Value) (n:Str),acc[j]? =some v->ns[j]? =some n->∃t:Tok,v=.str n t):StrsAre acc ns:=by
 induction acc generalizing ns with
 |nil=>
  cases ns with
  |nil=>exact .nil
  |cons n ns=>simp at c
 |cons v acc ih=>
  cases ns with
  |nil=>simp at c
  |cons n ns=>
   obtain⟨t,rfl⟩:=h 0 v n rfl rfl;exact .cons _ _<|ih (by simpa using c) λj v n a b=>h (j+1) v n a b
theorem mn{K:Type}[DecidableEq K]{knd:PySem.KeyKind prog w K}{a:Addr}{kvs:List (K×Value)}{ep:Nat}{ns:List Str}{Q:Value->Shared->Prop}(Z:A.handled=none)(lo:(a==sysModules)=false)(x:s.heap.DictAt knd a kvs ep)(hz:kvs.length<64)(B:ns.length=kvs.length)(hs:sortedS (eB ns)=true)
  (Y:∀(j:Nat)(k:K)(y key:Value)(n:Str),kvs[j]? =some (k,y)->knd.is k key=true->ns[j]? =some n->∃t:Tok,key=.str n t)
  (h:∀(h':Heap)(tk:Nat)(D:Addr)(out:Array Value)(c:Nat),(∀b o,s.heap.get? b=some o->h'.get? b=some o)->s.heap.get? D=none->h'.get? D=some (seqObj "list" out c)->StrsAre out.toList (eB ns)->Q (.ref D) {s with heap:=h',toks:=tk}):
  wpAny (model prog w) A (call (.builtin "sorted") [.ref a]) Q E s:=by
 refine call_function_entry kind_sorted plain_sorted entry_sorted (args_sorted1 _) ?_;unfold Builtin.«sorted»;refine ae (m:=checkCount "sorted" 1 1 _)<|ai<|ae<|kdu_collect (A:=A.in1) (kdl_dict (knd:=knd) (kvs:=kvs) (ep:=ep) lo) Z x (by rw[sizeLine_eq];omega) λh' tk acc F z=>?_
 have H:StrsAre acc.toList ns:=r8 (by rw[length_toList,z.1,B]) λj v n e1 e2=>by
  obtain⟨k,y,e3,e4⟩:=z.2 j v (by rw[<-Array.getElem?_toList];exact e1)
  exact Y j k y v n e3 e4 e2
 have U:acc.toList.length<64:=by rw[length_toList,z.1];omega
 refine ae<|wpAny_newList ?_ (by rw[sizeLine_eq];omega)
 have ho:(h'.push<|seqObj "list" acc.toList.toArray 0).get? h'.objs.size=some (seqObj "list" acc.toList.toArray 0):=aC _ rfl;refine ae<|wpAny_holding<|wpAny_call_entry slot_list_sort ⟨_,ho,rfl⟩ entry_list_sort (list_sort_treeK strKind_oneLt ho H.keysOf (λv₁ v₂ rest e=>keyKind_strs (by rw[<-e];exact H)) U λst' J hs'=>⟨_,rfl,?_⟩)<|args_list_sort _
 obtain⟨I,a1,a2,a3⟩:=sorted_out_str H J hs';obtain⟨c,hc⟩:=sortedHeap_at (out:=(arrOf st').map (·.2)) ho
 have hb:s.heap.get? h'.objs.size=none:=by
  cases e:s.heap.get? h'.objs.size with
  |none=>rfl
  |some o=>exact absurd (au<|F _ _ e)<|a8 _
 refine ai ⟨_,rfl,h _ tk h'.objs.size _ c (λb o q=>?_) hb hc (by rw[<-xm a2 a3 hs];exact a1)⟩
 have q2:=F b o q;rw[sortedHeap_old (aw<|au q2) (by rw[Heap.size_push];exact lt_succ_of_lt<|au q2)]
 exact ah _ q2
end
end PySem.W
namespace L2
open PySem PySem.Spec PyProof.Rows Tab23
section
variable{X:Cx}
theorem k_:∀{vs:List Value}{ns:List Str},StrsAre vs ns->bn (ns.map V.str) vs
 |_,_,.nil=>.nil
 |_,_,.cons n t h=>.cons ⟨t,rfl⟩<|k_ h
theorem sL{pins:List (Addr×Obj)}{W:St}{H:Hp}{s:Shared}{h':Heap}{tk:Nat}{D:Addr}{out:Array Value}{c:Nat}{vs:List V}{Q:VK}(I:Inv X pins W H s)(k:∀b u,s.heap.get? b=some u->h'.get? b=some u)(F:s.heap.get? D=none)
  (J:h'.get? D=some (seqObj "list" out c)) (hi:bn vs out.toList)(U:vs.length<64)(q:∀l,H l=none->Q (.ref l) (upd H l<|.lst vs)):EP X pins W Q (.ref D) {s with heap:=h',toks:=tk}:=by
 have B:H D=none:=by
  cases q:H D with
  |none=>rfl
  |some u=>obtain⟨o,ho⟩:=(I.hok D u q).here;rw[F] at ho;cases ho
 refine⟨.ref D,_,I.grown (H':=upd H D<|.lst vs) (t':=tk) k (λb u e=>?_) (λb o e n=>?_)<|λb u e n=>?_,rfl,q D B⟩
 .rw[aI (λz=>by subst z;rw[B] at e;cases e)];exact e
 .rw[aI (λz=>by subst z;rw[F] at e;cases e)];exact n
 .by_cases hb:b=D
  .subst hb;rw[bf] at e;cases e;exact⟨by rw[sizeLine_eq];omega,out.toList,c,hi,by rw[Array.toArray_toList];exact J⟩
  .rw[aI hb,n] at e;cases e
theorem k8(hc:X.calm=true):eM X (.builtin "sorted") (λxs H Q=>∃(p:Addr)(kvs:List (Key×V))(ns:List Str),xs=[.ref p]/\H p=some (.dK kvs)/\kvs.map (·.1)=ns.map (Sum.inr:Str->Key)/\kvs.length<64/\sortedS (eB ns)=true/\∀l,H l=none->Q (.ref l) (upd H l<|.lst<|(eB ns).map V.str)):=by
 intro pins s W H xs us Q I r h;obtain⟨p,kvs,ns,rfl,hd,U,hz,B,q⟩:=h;obtain⟨u,rfl,Z⟩:=vals1 r;cases Z;obtain⟨z,hs,vs,rel,dd⟩:=oN I.hok hd;obtain⟨ob,es,ep0,vs0,g1,g2,g3,g4,g5,g6,lo⟩:=p8<|I.hok p _ hd;obtain⟨ep,J⟩:=dd.dictAt;have lv:=rel.length;have ln:ns.length=vs.length:=by have:=congrArg List.length U;simp at this;omega
 have kn:vs.map (·.1)=ns.map (Sum.inr:Str->Key):=by rw[<-rel.keys];exact U
 refine PySem.W.mn (ns:=ns) (I.ok.hd hc) lo J (by omega) ln B (λj k y key n e1 e2 e3=>?_) λh' tk D out c kk hD F hi=>sL (tk:=tk) I kk hD F (k_ hi) (by rw[length_map,(e_ ns).length_eq];omega) q
 have Y:(vs.map (·.1))[j]? =some k:=by rw[aj,e1];rfl
 rw[kn,aj,e3] at Y;cases Y;rcases bP (show jn (.inr n) key=true from e2) with⟨i,t,e,_⟩|⟨y,t,e,rfl⟩
 .cases e
 .cases e;exact⟨t,rfl⟩
theorem tf(Z:X.calm=true):eM X (.builtin "sum") (λxs H Q=>∃(p:Addr)(ns:List Int),xs=[.ref p]/\dO X.K H p (ns.map V.int)/\Q (.int ns.sum) H):=by
 intro pins s W H xs us Q I r h;obtain⟨p,ns,rfl,U,q⟩:=h;obtain⟨u,rfl,B⟩:=vals1 r;cases B;obtain⟨its,F,J,_⟩:=I.list U;have hi:=intsAre_of F;obtain⟨xs,z⟩:=hi.allInts.items;have c:=z▸J.isList;refine sum_intListG (I.ok.hd Z) c λh' tk t' Y=>?_
 have e1:ns=xs.toList.map (·.1):=by rw[<-nums_intItems,<-z];exact(show _=ns from hi.numsOf).symm
 have e2:preSum (numAt xs) xs.size=ns.sum:=by
  rw[preSum_eq,take_of_length_le (by simp),e1]
 rw[e2];refine⟨.int ns.sum,H,I.grown (H':=H) (t':=tk) Y (λb u e=>e) (λb o e n=>n)<|λb u e n=>?_,⟨t',rfl⟩,q⟩;rw[n] at e;cases e
end
end L2
namespace Ev
open PySem PySem.Spec PyProof.Rows L2
variable{v vx vy:V}{d x y:D}{vs:List V}{X:Cx}{m:Nat}{G:Nat->Addr}{H:Hp}
noncomputable def bV:List (Key×D)->Key->Option D
 |[],_=>none
 |p::r,k=>if p.1=k then some p.2 else bV r k
noncomputable abbrev Loc:=List<|Option D
inductive Bo where
 |add|sub|mul|fdiv|mod|pow
inductive Bt where
 |len|list|tuple|dict|sorted|sum|int
inductive Ty where
 |tuple|int|bool
inductive Sk where
 |seq|rng|en
noncomputable def Sk.isEn:Sk->Bool
 | .en=>true
 |_=>false
inductive Ex where
 |c (d:D)|v (i:Nat)|tup (es:List Ex)|lst (es:List Ex)|emp
 |bin (op:Bo)(a b:Ex)|not (a:Ex)|and (a b:Ex)|or (a b:Ex)
 |cmp (op:CmpOp)(a b:Ex)
 |ix (a b:Ex)|sl (a lo hi:Ex)(hl hh:Bool)
 |fn (f:Nat) (args:List Ex)|bt (f:Bt)(args:List Ex)
 |comp (sk:Sk)(two:Bool)(src test:Ex)(ht:Bool)(elt:Ex)
 |dict (ks:List Key) (vs:List Ex)|ite (c a b:Ex)|isk (a:Ex)(tb:List (Str×Bool))|rv (a:Ex)|compI (o e:Ex)|compR (a b c e:Ex)|pop (o:Ex)(fr:Bool)
 |fld (a:Ex)(f:Str)(cs ics:List Str)
 |new (x:Str) (f:Nat) (args:List Ex)|meth (o:Ex)(m:Str)(ms:List (Str×Nat))(args:List Ex)
 |isi (a:Ex)(tp:Ty)|dget (a b c:Ex)|dget1 (a b:Ex)|sset (a:Ex)
noncomputable def alloc(xs:List D):M D:=λst=>.ok (.ref st.length)<|st++[.lst xs]
noncomputable def allocD:M D:=λst=>.ok (.ref st.length)<|st++[.dct []]
noncomputable def bO(st:aU):D->Option (List D)
 | .tup xs=>some xs
 | .fl xs=>some xs
 | .ref n=>match st[n]? with
  |some (.lst xs)=>some xs
  |_=>none
 |_=>none
noncomputable def u9(fr:Bool)(x:D):M D:=λst=>match x with
 | .ref n=>match st[n]? with
  |some (.lst xs)=>match xs[if fr then 0 else xs.length - 1]? with
   |some y=>.ok y<|st.set n<|.lst (if fr then xs.drop 1 else xs.dropLast)
   |none=>.bad
  |_=>.bad
 |_=>.bad
noncomputable def big:Int:=18446744073709551616
noncomputable def ii(f:Int->Int->M D)(x y:D):M D:=match x with
 | .int i=>(match y with
  | .int j=>f i j
  |_=>stuck)
 |_=>stuck
noncomputable def addD(x y:D):M D:=match x with
 | .int i=>(match y with
  | .int j=>ret (.int<|i+j)
  |_=>stuck)
 | .ref m=>(match y with
  | .ref n=>λst=>match st[m]?,st[n]? with
   |some (.lst as),some (.lst bs)=>if as.length+bs.length<=1000000 then alloc (as++bs) st else .bad
   |_,_=>.bad
  |_=>stuck)
 |_=>stuck
def AQ(x y:D):M D:=match x with
 | .int i=>(match y with
  | .int j=>λst=>if((-big<i/\i<big)∨(-big<j/\j<big))∨(i.natAbs<2^1000/\j.natAbs<2^1000) then .ok (.int<|i*j) st else .bad
  |_=>stuck)
 |_=>stuck
def cB(op:Bo)(x y:D):M D:=match op with
 | .add=>addD x y
 | .sub=>ii (λi j=>ret<|.int<|i - j) x y
 | .mul=>AQ x y
 | .fdiv=>ii (λi j st=>if j≠0/\j.natAbs<2^200 then .ok (.int<|i.fdiv j) st else .bad) x y
 | .mod=>ii (λi j st=>if j≠0 then .ok (.int<|i.fmod j) st else .bad) x y
 | .pow=>ii (λi j st=>if 0<=j/\j<=1000/\i.natAbs<1000 then .ok (.int<|i^j.toNat) st else .bad) x y
def fN(x:D):List D->Option Bool
 |[]=>some false
 |y::ys=>match nz y x,fN x ys with
  |some a,some b=>some<|a||b
  |_,_=>none
noncomputable def oi(o:D):M Unit:=λst=>match o with
 | .ref n=>match st[n]? with
  |some (.lst _)=>.ok () st
  |_=>.bad
 |_=>.bad
def ke:D->Option Key
 | .int i=>some<|.inl i
 | .str s=>some<|.inr s
 |_=>none
def jd(st:aU)(x y:D):Option Bool:=match y with
 | .ref n=>match st[n]? with
  |some (.dct kvs)=>match ke x with
   |some k=>some (bV kvs k).isSome
   |none=>none
  |_=>none
 |_=>none
def cZ(op:CmpOp)(x y:D):M D:=λst=>match op with
 | .Eq=>match kY st x y with
  |some k=>.ok (.bl k) st
  |none=>.bad
 | .NotEq=>match kY st x y with
  |some k=>.ok (.bl<|!k) st
  |none=>.bad
 | .Lt=>match x,y with
  | .int i,.int j=>.ok (.bl<|decide<|i<j) st
  |_,_=>.bad
 | .Gt=>match x,y with
  | .int i,.int j=>.ok (.bl<|decide<|j<i) st
  |_,_=>.bad
 | .In=>match bO st y with
  |some ys=>match fN x ys with
   |some k=>.ok (.bl k) st
   |none=>.bad
  |none=>match jd st x y with
   |some k=>.ok (.bl k) st
   |none=>.bad
 | .NotIn=>match bO st y with
  |some ys=>match fN x ys with
   |some k=>.ok (.bl<|!k) st
   |none=>.bad
  |none=>match jd st x y with
   |some k=>.ok (.bl<|!k) st
   |none=>.bad
 |_=>.bad
noncomputable def BR(st:aU)(x:D)(k:Key):R D:=match x with
 | .ref n=>match st[n]? with
  |some (.dct kvs)=>match bV kvs k with
   |some d=>.ok d st
   |none=>.bad
  |_=>.bad
 |_=>.bad
def index(x y:D):M D:=λst=>match x,y with
 |x,.int i=>match bO st x with
  |some xs=>match iM xs i with
   |some d=>.ok d st
   |none=>.bad
  |none=>BR st x<|.inl i
 |x,.str k=>BR st x<|.inr k
 |_,_=>.bad
def FU:D->Option (Key×D)
 | .tup xs=>(nY xs).bind λp=>(ke p.1).map λk=>(k,p.2)
 |_=>none
def su:List D->Option (List<|Key×D)
 |[]=>some []
 |x::r=>(FU x).bind λp=>(su r).map λq=>p::q
noncomputable def bD(kvs:List (Key×D))(k:Key)(v:D):List (Key×D):=if(kvs.any λkv=>decide<|kv.1=k) then kvs.map (λkv=>if kv.1=k then(kv.1,v) else kv) else kvs++[(k,v)]
noncomputable def rF(ps:List (Key×D)):List (Key×D):=ps.foldl (λacc p=>bD acc p.1 p.2) []
noncomputable def fM(st:aU):D->Option (List<|Key×D)
 | .ref n=>match st[n]? with
  |some (.dct kvs)=>some kvs
  |_=>none
 |_=>none
noncomputable def lD:List D->Option (List Int)
 |[]=>some []
 | .int i::r=>(lD r).map λns=>i::ns
 |_=>none
noncomputable def ji:List (Key×D)->Option (List Str)
 |[]=>some []
 |(.inr n,_)::r=>(ji r).map λns=>n::ns
 |_=>none
def numsOf(st:aU):D->Option (List Int)
 | .ref n=>match st[n]? with
  |some (.lst xs)=>lD xs
  |_=>none
 |_=>none
noncomputable def o8(st:aU):D->Option (List Str)
 | .ref n=>match st[n]? with
  |some (.dct kvs)=>ji kvs
  |_=>none
 |_=>none
def uk(x:D):M D:=λst=>match bO st x with
 |some xs=>match lD xs with
  |some ns=>if ns.length<=2/\ns.all (λn=>decide<|0<=n/\n<10)=true then alloc ((Tab23.iq ns).map .int) st else .bad
  |none=>.bad
 |none=>.bad
def oU(f:Bt)(x:D):M D:=match f with
 | .len=>λst=>match bO st x with
  |some xs=>.ok (.int xs.length) st
  |none=>match fM st x with
   |some kvs=>.ok (.int kvs.length) st
   |none=>.bad
 | .list=>λst=>match bO st x with
  |some xs=>alloc xs st
  |none=>.bad
 | .tuple=>λst=>match bO st x with
  |some xs=>.ok (.tup xs) st
  |none=>.bad
 | .dict=>(match x with
  | .ref n=>λst=>match st[n]? with
   |some (.lst xs)=>(match su xs with
    |some ps=>.ok (.ref st.length) (st++[.dct<|rF ps])
    |none=>.bad)
   |some (.dct kvs)=>.ok (.ref st.length) (st++[.dct kvs])
   |_=>.bad
  |_=>stuck)
 | .sorted=>λst=>match numsOf st x with
  |some ns=>if ns.length<64 then alloc ((Tab23.dX ns).map .int) st else .bad
  |none=>match o8 st x with
   |some ns=>if ns.length<64/\sortedS (Tab23.eB ns)=true then alloc ((Tab23.eB ns).map .str) st else .bad
   |none=>.bad
 | .sum=>λst=>match numsOf st x with
  |some ns=>.ok (.int ns.sum) st
  |none=>.bad
 | .int=>(match x with
  | .bl b=>ret (.int (if b then 1 else 0))
  |_=>stuck)
def dD(f:Bt)(ds:List D):M D:=match ds with
 |[x]=>oU f x
 |_=>stuck
inductive Src where
 |its (xs:List D)|at(n:Nat)|en (n:Nat)|di (n:Nat)|dv (n:Nat)
noncomputable def kD:Key->D
 | .inl i=>.int i
 | .inr s=>.str s
noncomputable def bx(n:Nat):List D:=(range n).map λ(i:Nat)=>D.int (i:Int)
noncomputable def eQ(rng:Bool)(d:D):Option Src:=match rng,d with
 |true,.int j=>if -1000000<=j/\j<=1000000 then some (.its<|bx j.toNat) else none
 |false,.tup xs=>some<|.its xs
 |false,.fl xs=>some<|.its xs
 |false,.ref n=>some<|.at n
 |_,_=>none
noncomputable def c8(i:Int)(n:Nat):List D:=(range n).map λ(k:Nat)=>D.int<|i+(k:Int)
def jA:D->D->Option Src
 | .int i,.int j=>if(-1000000<=i/\i<=1000000)/\ -1000000<=j/\j<=1000000 then some (.its<|c8 i (j - i).toNat) else none
 |_,_=>none
noncomputable def eJ(i:Int)(n:Nat):List D:=(range n).map λ(k:Nat)=>D.int<|i - (k:Int)
def mm:D->Option Src
 | .int i=>if -1000000<=i/\i<=1000000 then some (.its<|eJ i (i+1).toNat) else none
 |_=>none
noncomputable def dC(k:Nat):List D->List D
 |[]=>[]
 |x::xs=>.tup [.int (k:Int),x]::dC (k+1) xs
theorem cJ:∀(xs:List D)(k i:Nat),(dC k xs)[i]? =xs[i]?.map λx=>.tup [.int ((k+i:Nat):Int),x]
 |[],k,i=>by simp[dC]
 |x::xs,k,0=>by simp[dC]
 |x::xs,k,i+1=>by
  simp only[dC,List.getElem?_cons_succ];rw[cJ xs (k+1) i,show k+1+i=k+(i+1) by omega]
def rG:D->Option Src
 | .ref n=>some<|.en n
 | .tup xs=>some<|.its<|dC 0 xs
 |_=>none
noncomputable def nxt(s:Src)(i:Nat)(st:aU):Option (Option D):=match s with
 | .its xs=>some xs[i]?
 | .at n=>match st[n]? with
  |some (.lst xs)=>some xs[i]?
  |_=>none
 | .en n=>match st[n]? with
  |some (.lst xs)=>some<|xs[i]?.map λx=>.tup [.int (i:Int),x]
  |_=>none
 | .di n=>match st[n]? with
  |some (.dcf kvs)=>some<|kvs[i]?.map λp=>.tup [kD p.1,p.2]
  |_=>none
 | .dv n=>match st[n]? with
  |some (.dcf kvs)=>some<|kvs[i]?.map λp=>p.2
  |_=>none
noncomputable def bG(s:Src)(st:aU):Nat:=match s with
 | .its xs=>xs.length
 | .at n=>match st[n]? with
  |some (.lst xs)=>xs.length
  |_=>0
 | .en n=>match st[n]? with
  |some (.lst xs)=>xs.length
  |_=>0
 | .di n=>match st[n]? with
  |some (.dcf kvs)=>kvs.length
  |_=>0
 | .dv n=>match st[n]? with
  |some (.dcf kvs)=>kvs.length
  |_=>0
def eL(f:D->M (Option D))(s:Src):Nat->Nat->List D->M (List D)
 |0,_,_=>stuck
 |k+1,i,acc=>λst=>match nxt s i st with
  |some (some x)=>bg (f x) (λo=>match o with
   |some y=>eL f s k (i+1) (acc++[y])
   |none=>eL f s k (i+1) acc) st
  |some none=>.ok acc st
  |none=>.bad
def cY(f:D->M (Option D))(s:Src):M D:=λst=>if bG s st<=1000000 then bg (eL f s (bG s st+1) 0 []) alloc st else .bad
noncomputable def iK:D->Option Bool
 | .bl b=>some b
 |_=>none
noncomputable def k5:D->Option Int
 | .int i=>some i
 |_=>none
noncomputable def cutD(xs:List D)(lo hi:Option Int):List D:=(xs.drop<|HT.cV xs.length 0 lo).take<|HT.cV xs.length xs.length hi - HT.cV xs.length 0 lo
def slice(x:D)(lo hi:Option Int):M D:=λst=>match x with
 | .tup xs=>if HT.cV xs.length 0 lo=0/\HT.cV xs.length xs.length hi=xs.length then .bad else .ok (.tup<|cutD xs lo hi) st
 |x=>match bO st x with
  |some xs=>alloc (cutD xs lo hi) st
  |none=>.bad
noncomputable def allocK(ks:List Key)(ds:List D):M D:=λst=>if ks.length=ds.length/\ks.Nodup then .ok (.ref st.length) (st++[.dct<|ks.zip ds]) else .bad
noncomputable def A3(tb:List (Str×Bool))(x:D):M D:=λst=>match x with
 | .ref n=>match st[n]? with
  |some (.ins c _)=>match tb.lookup c with
   |some b=>.ok (.bl b) st
   |none=>.bad
  |_=>.bad
 |_=>.bad
noncomputable def Bf(f:Str)(cs ics:List Str)(x:D):M D:=λst=>match x with
 | .ref n=>match st[n]? with
  |some (.ins c fs)=>match fs.lookup f with
   |some d=>if c∈ics then .ok d st else .bad
   |none=>.bad
  |_=>.bad
 |_=>.bad
noncomputable def qT(m:Str)(ms:List (Str×Nat))(x:D):M Nat:=λst=>match x with
 | .ref n=>match st[n]? with
  |some (.ins c fs)=>match fs.lookup m,ms.lookup c with
   |none,some j=>.ok j st
   |_,_=>.bad
  |_=>.bad
 |_=>.bad
inductive Rs where
 |v (d:D)|x (n:Nat)
noncomputable def Rs.val?:Rs->Option D
 | .v d=>some d
 | .x _=>none
abbrev eX:=Nat->List D->M Rs
def vw(g:eX)(x:Str)(f:Nat)(ds:List D):M D:=λst=>bg (g f<|.ref st.length::ds) (λr=>match r with
 | .v .non=>ret (.ref st.length)
 |_=>stuck) (st++[.ins x []])
noncomputable def A4:Ty->D->Option Bool
 | .tuple,.tup _=>some true
 | .int,.int _=>some true
 | .bool,.int _=>some false
 |_,_=>none
def EF(x:D):M D:=λst=>match x with
 | .ref n=>match st[n]? with
  |some (.lst xs)=>alloc xs.reverse st
  |_=>.bad
 |_=>.bad
noncomputable def pY(d:D):M Nat:=λst=>match d with
 | .ref n=>match st[n]? with
  |some (.dct kvs)=>.ok n<|st.set n<|.dcf kvs
  |_=>.bad
 |_=>.bad
noncomputable def xi(n:Nat)(d:D):M D:=λst=>match st[n]? with
 |some (.dcf kvs)=>.ok d<|st.set n<|.dct kvs
 |_=>.bad
noncomputable def lP(o:D):M Unit:=λst=>match fM st o with
 |some _=>.ok () st
 |none=>.bad
def wm(x k z:D):M D:=λst=>match fM st x with
 |some kvs=>match ke k with
  |some k=>.ok ((bV kvs k).getD z) st
  |none=>.bad
 |none=>.bad
def p9(x k:D):M D:=λst=>match fM st x with
 |some kvs=>match ke k with
  |some k=>.ok ((bV kvs k).getD .non) st
  |none=>.bad
 |none=>.bad
def srcOf:Sk->D->Option Src
 | .seq=>eQ false
 | .rng=>eQ true
 | .en=>rG
def own(two:Bool)(x:D):M (List D):=match two with
 |false=>ret [x]
 |true=>match x with
  | .tup xs=>if xs.length=2 then ret xs else stuck
  |_=>stuck
def eF(c e:Loc->M D)(ht two:Bool)(loc:Loc)(x:D):M (Option D):=bg (own two x) λds=>bg (if ht then bg (c<|ds.map some++loc) λz=>fe (iK z) else ret true) λk=>if k then bg (e<|ds.map some++loc) λy=>ret (some y) else ret none
mutual
noncomputable def run(g:eX):Ex->Loc->M D
 | .c d,_=>ret d
 | .v i,loc=>fe<|loc[i]?.join
 | .tup es,loc=>bg (runs g es loc) λds=>ret<|.tup ds
 | .lst es,loc=>bg (runs g es loc) alloc
 | .emp,_=>allocD
 | .bin op a b,loc=>bg (run g a loc) λx=>bg (run g b loc) λy=>cB op x y
 | .not a,loc=>bg (run g a loc) λx=>bg (fe<|iK x) λb=>ret<|.bl<|!b
 | .and a b,loc=>bg (run g a loc) λx=>bg (fe<|iK x) λk=>if k then run g b loc else ret<|.bl false
 | .or a b,loc=>bg (run g a loc) λx=>bg (fe<|iK x) λk=>if k then ret (.bl true) else run g b loc
 | .cmp op a b,loc=>bg (run g a loc) λx=>bg (run g b loc) λy=>cZ op x y
 | .ix a b,loc=>bg (run g a loc) λx=>bg (run g b loc) λy=>index x y
 | .sl a lo hi hl hh,loc=>bg (run g a loc) λx=>bg (if hl then bg (run g lo loc) λz=>bg (fe<|k5 z) λi=>ret (some i) else ret none) λl=>
   bg (if hh then bg (run g hi loc) λz=>bg (fe<|k5 z) λi=>ret (some i) else ret none) λh=>slice x l h
 | .fn f args,loc=>bg (runs g args loc) λds=>bg (g f ds) λr=>fe r.val?
 | .bt f args,loc=>bg (runs g args loc) λds=>dD f ds
 | .fld a f cs ics,loc=>bg (run g a loc) λx=>Bf f cs ics x
 | .new x f args,loc=>bg (runs g args loc) λds=>vw g x f ds
 | .meth o m ms args,loc=>bg (run g o loc) λx=>bg (qT m ms x) λj=>bg (runs g args loc) λds=>bg (g j<|x::ds) λr=>fe r.val?
 | .dict ks es,loc=>bg (runs g es loc) λds=>allocK ks ds
 | .ite c a b,loc=>bg (run g c loc) λx=>bg (fe<|iK x) λk=>if k then run g a loc else run g b loc
 | .isk a tb,loc=>bg (run g a loc) λx=>A3 tb x
 | .comp sk two src test ht elt,loc=>bg (run g src loc) λd=>bg (fe<|srcOf sk d) λs=>cY (eF (run g test) (run g elt) ht two loc) s
 | .pop o fr,loc=>bg (run g o loc) λx=>u9 fr x
 | .isi a tp,loc=>bg (run g a loc) λx=>bg (fe<|A4 tp x) λk=>ret<|.bl k
 | .compR a b c e,loc=>bg (run g a loc) λx=>bg (run g b loc) λy=>bg (fe<|jA x y) λs=>cY (eF (run g c) (run g e) true false loc) s
 | .rv a,loc=>bg (run g a loc) λx=>EF x
 | .compI o e,loc=>bg (run g o loc) λd=>bg (pY d) λn=>bg (cY (eF (run g e) (run g e) false true loc)<|.di n) λr=>xi n r
 | .dget a b c,loc=>bg (run g a loc) λx=>bg (lP x) λ_=>bg (run g b loc) λk=>bg (run g c loc) λz=>wm x k z
 | .dget1 a b,loc=>bg (run g a loc) λx=>bg (lP x) λ_=>bg (run g b loc) λk=>p9 x k
 | .sset a,loc=>bg (run g a loc) λx=>uk x
noncomputable def runs(g:eX):List Ex->Loc->M (List D)
 |[],_=>ret []
 |e::es,loc=>bg (run g e loc) λd=>bg (runs g es loc) λds=>ret<|d::ds
end
inductive S where
 |set (i:Nat)(e:Ex)|setix (o i e:Ex)|ret (e:Ex)|app (o e:Ex)
 |ite (c:Ex)(a b:List S)|for_ (i:Nat)(rng:Bool)(src:Ex)(body:List S)|forD (i:Nat)(a:Ex)(body:List S)
 |whil (c:Ex)(body:List S)
 |setf (o:Ex)(f:Str)(e:Ex)(cs ics:List Str)
 |forE (is:List Nat)(src:Ex)(body:List S)
 |forW (i:Nat)(o:Ex)(body:List S)
 |augx (o i e:Ex)
 |cont|unp (is:List Nat)(e:Ex)
 |stop
inductive Fl where
 |nx (loc:Loc)|rt (d:D)|ex (n:Nat)(loc:Loc)|ct (loc:Loc)
def ip(o i v:D):M Unit:=λst=>match o with
 | .ref n=>match st[n]? with
  |some (.lst xs)=>match i with
   | .int k=>match sO xs.length k with
    |some j=>.ok ()<|st.set n<|.lst<|xs.set j v
    |none=>.bad
   |_=>.bad
  |some (.dct kvs)=>match ke i with
   |some k=>if kvs.length<1000000 then .ok () (st.set n<|.dct<|bD kvs k v) else .bad
   |none=>.bad
  |_=>.bad
 |_=>.bad
noncomputable def append(o v:D):M Unit:=λst=>match o with
 | .ref n=>match st[n]? with
  |some (.lst xs)=>if xs.length<1000000 then .ok () (st.set n<|.lst<|xs++[v]) else .bad
  |_=>.bad
 |_=>.bad
def i9(f:D->Loc->M Fl)(s:Src):Nat->Nat->Loc->M Fl
 |0,_,_=>stuck
 |k+1,i,loc=>λst=>match nxt s i st with
  |some (some x)=>bg (f x loc) (λr=>match r with
   | .nx loc'=>i9 f s k (i+1) loc'
   | .ct loc'=>i9 f s k (i+1) loc'
   | .rt d=>ret (.rt d)
   | .ex n l=>ret<|.ex n l) st
  |some none=>.ok (.nx loc) st
  |none=>.bad
def fO(f:D->Loc->M Fl)(s:Src)(loc:Loc):M Fl:=λst=>i9 f s (bG s st+1) 0 loc st
def fR(c:Loc->M D)(f:Loc->M Fl):Nat->Loc->M Fl
 |0,_=>stuck
 |k+1,loc=>bg (c loc) λx=>bg (fe<|iK x) λb=>if b then bg (f loc) (λr=>match r with
   | .nx loc'=>fR c f k loc'
   | .ct loc'=>fR c f k loc'
   | .rt d=>ret (.rt d)
   | .ex n l=>ret<|.ex n l) else ret<|.nx loc
noncomputable def Be:Nat:=1000000000
noncomputable def iV:List Nat->List D->Loc->Loc
 |i::is,d::ds,loc=>iV is ds<|loc.set i<|some d
 |_,_,loc=>loc
noncomputable def items?(n:Nat)(d:D):M (List D):=λst=>match d with
 | .tup xs=>if xs.length=n then .ok xs st else .bad
 |_=>.bad
noncomputable def BH(x y:D):M D:=λst=>match x,y with
 | .int i,.int j=>.ok (.int<|i+j) st
 |_,_=>.bad
def getL(x k:D):M D:=λst=>match x with
 | .ref n=>match st[n]? with
  |some (.lst xs)=>match k with
   | .int j=>if 0<=j then(match iM xs j with
    |some d=>.ok d st
    |none=>.bad) else .bad
   |_=>.bad
  |_=>.bad
 |_=>.bad
def putL(x k v:D):M Unit:=λst=>match x with
 | .ref n=>match st[n]? with
  |some (.lst xs)=>match k with
   | .int j=>(match sO xs.length j with
    |some i=>.ok () (st.set n<|.lst<|xs.set i v)
    |none=>.bad)
   |_=>.bad
  |_=>.bad
 |_=>.bad
noncomputable def ub(n:Nat)(r:Fl):M Fl:=λst=>match st[n]? with
 |some (.dcf kvs)=>match r with
  | .ex _ _=>.bad
  |r=>.ok r<|st.set n<|.dct kvs
 |_=>.bad
def nS(cs ics:List Str)(o:D)(f:Str)(v:D):M Unit:=λst=>match o with
 | .ref n=>match st[n]? with
  |some (.ins c fs)=>if fs.length<900/\c∈ics then .ok () (st.set n<|.ins c<|putD f v fs) else .bad
  |_=>.bad
 |_=>.bad
mutual
noncomputable def exec(g:eX):S->Loc->M Fl
 | .set i e,loc=>bg (run g e loc) λd=>ret<|.nx<|loc.set i<|some d
 | .setix o i e,loc=>bg (run g e loc) λd=>bg (run g o loc) λx=>bg (run g i loc) λk=>bg (ip x k d) λ_=>ret<|.nx loc
 | .ret e,loc=>bg (run g e loc) λd=>ret<|.rt d
 | .app o e,loc=>bg (run g o loc) λx=>bg (oi x) λ_=>bg (run g e loc) λd=>bg (append x d) λ_=>ret<|.nx loc
 | .ite c a b,loc=>bg (run g c loc) λx=>bg (fe<|iK x) λk=>if k then execs g a loc else execs g b loc
 | .for_ i rng src body,loc=>bg (run g src loc) λd=>bg (fe<|eQ rng d) λs=>fO (λx loc'=>execs g body<|loc'.set i<|some x) s loc
 | .forD i a body,loc=>bg (run g a loc) λx=>bg (fe<|mm x) λs=>fO (λx loc'=>execs g body<|loc'.set i<|some x) s loc
 | .whil c body,loc=>fR (run g c) (execs g body) Be loc
 | .setf o f e cs ics,loc=>bg (run g e loc) λd=>bg (run g o loc) λx=>bg (nS cs ics x f d) λ_=>ret<|.nx loc
 | .augx o i e,loc=>bg (run g o loc) λx=>bg (run g i loc) λk=>bg (getL x k) λy=>bg (run g e loc) λz=>bg (BH y z) λw=>bg (putL x k w) λ_=>ret<|.nx loc
 | .forE is src body,loc=>bg (run g src loc) λd=>bg (fe<|rG d) λs=>fO (λx loc'=>bg (items? is.length x) λds=>execs g body<|iV is ds loc') s loc
 | .forW i o body,loc=>bg (run g o loc) λd=>bg (pY d) λn=>bg (fO (λx loc'=>execs g body<|loc'.set i<|some x) (.dv n) loc) λr=>ub n r
 | .cont,loc=>ret<|.ct loc
 | .unp is e,loc=>bg (run g e loc) λd=>bg (items? is.length d) λds=>ret<|.nx<|iV is ds loc
 | .stop,_=>stuck
noncomputable def execs(g:eX):List S->Loc->M Fl
 |[],loc=>ret<|.nx loc
 |s::ss,loc=>bg (exec g s loc) λr=>match r with
  | .nx loc'=>execs g ss loc'
  | .ct l=>ret<|.ct l
  | .rt d=>ret<|.rt d
  | .ex n l=>ret<|.ex n l
end
structure Fn where
 ar:Nat
 nl:Nat
 body:List S
noncomputable def rO(g:eX)(f:Fn)(ds:List D):M Rs:=if ds.length=f.ar then bg (execs g f.body<|ds.map some++replicate (f.nl - ds.length) none) λr=>match r with
  | .nx _=>ret<|.v .non
  | .rt d=>ret<|.v d
  | .ex n _=>ret<|.x n
  | .ct _=>stuck
 else stuck
noncomputable def calls(tab:List Fn):Nat->eX
 |0,_,_=>stuck
 |k+1,f,ds=>match tab[f]? with
  |some fn=>rO (calls tab k) fn ds
  |none=>stuck
def cv(K:aF)(H:Hp)(G:Nat->Addr)(st:aU)(r:R D)(Q:VK):Prop:=match r with
 | .ok d st'=>∀H' G' v,Ext H H' G G' st.length st'.length->Sim K H' G' st'->VRel K H' G' st'.length d v->Q v H'
 | .bad=>False
section
variable{K:aF}{H:Hp}{G:Nat->Addr}{st:aU}{Q:VK}
theorem cv.same(S:Sim K H G st)(P:cv K H G st (.ok d st) Q)(r:VRel K H G st.length d v):Q v H:=P H G v (Ext.refl _ _ _) S r
theorem cv.mono{H1:Hp}{G1:Nat->Addr}{st1:aU}{r:R D}(P:cv K H G st r Q)(E:Ext H H1 G G1 st.length st1.length):cv K H1 G1 st1 r Q:=by
 cases r with
 |ok d st'=>exact λH' G' v B z c=>P H' G' v (E.trans B) z c
 |bad=>exact P
theorem cv.alloc{xs:List D}(S:Sim K H G st)(P:cv K H G st (alloc xs st) Q)(r:VRels K H G st.length xs vs):∀p,H p=none->Q (.ref p) (upd H p<|.lst vs):=λp c=>by
 obtain⟨G',E,e,z⟩:=S.laid (o:= .lst xs) (ho:= .lst vs) c<|λG' h1 h2=>⟨vs,bf,VRels.ext0 ⟨le_succ _,h1,λb xs e=>by rw[aI<|aN e c];exact e,λb B u e=>by rw[aI<|aN e c];exact e⟩ r⟩
 have l:(st++[O.lst xs]).length=st.length+1:=by simp
 refine P _ G' _ (by rw[l];exact E) z ?_
 rw[<-e,l];exact .ref<|aJ _
theorem cv.allocD(S:Sim K H G st)(P:cv K H G st (allocD st) Q):∀p,H p=none->Q (.ref p) (upd H p<|.dK []):=λp c=>by
 obtain⟨G',E,e,z⟩:=S.laid (o:= .dct []) (ho:= .dK []) c<|λG' h1 h2=>⟨[],bf,.nil⟩;have l:(st++[O.dct []]).length=st.length+1:=by simp
 refine P _ G' _ (by rw[l];exact E) z ?_
 rw[<-e,l];exact .ref<|aJ _
theorem cv.tup{xs:List D}(S:Sim K H G st)(P:cv K H G st (.ok (.tup xs) st) Q)(r:VRels K H G st.length xs vs):∀p,H p=none->Q (.ref p) (upd H p<|.tup vs):=λp c=>by
 have F:∀n,n<st.length->G n≠p:=λn z=>by obtain⟨_,h,_⟩:=S.obj z;exact aN h c
 have E:Ext H (upd H p<|.tup vs) G G st.length st.length:=⟨⟨aa _,λ_ _=>rfl,λb xs e=>by rw[aI<|aN e c];exact e,λb B u e=>by rw[aI<|aN e c];exact e⟩,λb B e k=>⟨by rw[aI<|aN e c];exact e,k⟩⟩
 refine P _ G _ E ⟨S.inj,λn o e=>?_⟩<|.tup (fP.of bf)<|r.ext E;have z:n<st.length:=(aq e).1;have old:=S.ob n o e;exact old.move E.toExt0<|aI<|F n z
theorem VRel.seq{xs:List D}(S:Sim K H G st)(r:VRel K H G st.length d v)(e:bO st d=some xs):∃a vs,v=.ref a/\(dO K H a vs∨fP K H a vs)/\VRels K H G st.length xs vs:=by
 cases r with
 |tup h r=>cases e;exact⟨_,_,rfl,.inr h,r⟩
 |fl h r=>cases e;exact⟨_,_,rfl,.inl h.sql,r⟩
 | @ref n hn=>
  simp only[bO] at e;cases q:st[n]? with
  |none=>rw[q] at e;cases e
  |some o=>
   rw[q] at e;cases o with
   |lst zs=>cases e;obtain⟨vs,h1,h2⟩:=S.ob n _ q;exact⟨_,vs,rfl,.inl<|dO.of h1,h2⟩
   |_=>cases e
 |_=>cases e
theorem VRels.inv1(r:VRels K H G st.length [d] vs):∃v,vs=[v]/\VRel K H G st.length d v:=by
 cases r with
 |cons h t=>cases t;exact⟨_,rfl,h⟩
end
def rD(K:aF)(op:D->D->M D):R2:=λvx vy H Q=>∃G st dx dy,Sim K H G st/\VRel K H G st.length dx vx/\VRel K H G st.length dy vy/\cv K H G st (op dx dy st) Q
noncomputable def Bo.op:Bo->Operator
 | .add=> .Add
 | .sub=> .Sub
 | .mul=> .Mult
 | .fdiv=> .FloorDiv
 | .mod=> .Mod
 | .pow=> .Pow
theorem vn:oY X (binaryOp .FloorDiv) (rI (λ_ j=>j≠0/\j.natAbs<2^200) λi j=>.int<|i.fdiv j):=DV λi j _ _ _ _ _ c q=>floordiv_int c.1 q (.inl (PyProof.noPylong_of_log2 (by
 have h0:j.natAbs≠0:=by have:=c.1;omega
 have:j.natAbs.log2<200:=(Nat.log2_lt h0).mpr c.2;omega)))
theorem xW:oY X (binaryOp .Mult) (rI (λi j=>BK i j∨(i.natAbs<2^1000/\j.natAbs<2^1000)) λi j=>.int<|i*j):=DV λ_ _ _ _ _ _ _ c q=>mul_int q (by
 rcases c with c|c
 .exact c.ok
 .exact .of_bits (aM (PyProof.Rows.intBits_le c.1) (by decide)) (aM (PyProof.Rows.intBits_le c.2) (by decide)))
theorem AL(op:Bo):oY X (binaryOp op.op) (rD X.K<|cB op):=by
 intro pins s W H vx vy ux uy Q I z c h;obtain⟨G,st,dx,U,S,F,B,P⟩:=h;have sz:sizeLine=16777216:=sizeLine_eq;cases op with
 |add=>cases dx with
  |int i=>cases U with
   |int j=>cases F;cases B;exact AM pins s W H _ _ _ _ Q I z c ⟨_,_,rfl,rfl,cv.same S P<|.int _⟩
   |_=>exact False.elim P
  |ref m=>cases U with
   |ref n=>
    simp only[cB,addD] at P;split at P
    .rename_i as bs e1 e2;split at P
     .rename_i hl;cases F with
      |ref h1=>
       cases B with
       |ref h2=>
        obtain⟨v1,g1,Z⟩:=S.ob _ _ e1;obtain⟨v2,g2,Y⟩:=S.ob _ _ e2;have l1:=Z.length;have l2:=Y.length;exact AK pins s W H _ _ _ _ Q I z c ⟨_,_,_,_,rfl,rfl,g1,g2,by omega,P.alloc S<|Z.append Y⟩
     .exact False.elim P
    .exact False.elim P
   |_=>exact False.elim P
  |_=>exact False.elim P
 |sub=>cases dx with
  |int i=>cases U with
   |int j=>cases F;cases B;exact AI pins s W H _ _ _ _ Q I z c ⟨_,_,rfl,rfl,cv.same S P<|.int _⟩
   |_=>exact False.elim P
  |_=>exact False.elim P
 |mul=>cases dx with
  |int i=>cases U with
   |int j=>
    simp only[cB,AQ] at P;split at P
    .rename_i J;cases F;cases B;exact xW pins s W H _ _ _ _ Q I z c ⟨_,_,rfl,rfl,J,P.same S<|.int _⟩
    .exact False.elim P
   |_=>exact False.elim P
  |_=>exact False.elim P
 |fdiv=>cases dx with
  |int i=>cases U with
   |int j=>
    simp only[cB,ii] at P;split at P
    .rename_i J;cases F;cases B;exact vn pins s W H _ _ _ _ Q I z c ⟨_,_,rfl,rfl,J,P.same S<|.int _⟩
    .exact False.elim P
   |_=>exact False.elim P
  |_=>exact False.elim P
 |mod=>cases dx with
  |int i=>cases U with
   |int j=>
    simp only[cB,ii] at P;split at P
    .rename_i J;cases F;cases B;exact xX pins s W H _ _ _ _ Q I z c ⟨_,_,rfl,rfl,J,P.same S<|.int _⟩
    .exact False.elim P
   |_=>exact False.elim P
  |_=>exact False.elim P
 |pow=>cases dx with
  |int i=>cases U with
   |int j=>
    simp only[cB,ii] at P;split at P
    .rename_i J;cases F;cases B;exact AJ pins s W H _ _ _ _ Q I z c ⟨_,_,rfl,rfl,⟨J.1,by omega,by omega⟩,P.same S<|.int _⟩
    .exact False.elim P
   |_=>exact False.elim P
  |_=>exact False.elim P
noncomputable def eU(x:D)(u:Value):Bool:=match x with
 | .int i=>(match u with
  | .int j _=>j==i
  |_=>false)
 | .str i=>(match u with
  | .str j _=>j==i
  |_=>false)
 |_=>false
theorem DC{u:Value}{k:Bool}(e:nz y x=some k)(h:At X.K H G m y u):eU x u=k:=by
 obtain⟨_,q,r⟩:=h;cases q with
 |int i=>
  cases x with
  |int j=>cases e;obtain⟨t,rfl⟩:=r;rfl
  |_=>cases e
 |str i=>
  cases x with
  |str j=>cases e;obtain⟨t,rfl⟩:=r;rfl
  |_=>cases e
 |non=>
  cases x with
  |int j=>cases e;cases r;rfl
  |_=>cases e
 |_=>cases e
theorem kQ{X:Cx}{H:Hp}{s:Shared}{G:Nat->Addr}{m:Nat}{x:D}{B:Value}{A:Around}(F:At X.K H G m x B):
  ∀{ys:List D}{us:List Value}{k:Bool},fN x ys=some k->FA X.K H G m ys us->(∀u∈us,SeqAt.EqAt A s u B<|eU x u)/\us.any (eU x)=k
 |ys,us,k,h,⟨_,r1,q1⟩=>by
  cases q1 with
  |nil=>cases r1;exact⟨λu J=>(by cases J),ak h⟩
  |cons w1 w2=>
   cases r1 with
   | @cons y _ ys _ m1 m2=>
    unfold fN at h;cases e1:nz y x with
    |none=>rw[e1] at h;simp at h
    |some a=>
     cases e2:fN x ys with
     |none=>rw[e1,e2] at h;simp at h
     |some b=>
      rw[e1,e2] at h;obtain⟨Y,U⟩:=kQ (X:=X) (s:=s) (A:=A) F e2 ⟨_,m2,w2⟩;have I:=DC (X:=X) e1 ⟨_,m1,w1⟩;refine⟨λz c=>?_,?_⟩
      .rcases mem_cons.mp c with rfl|c
       .rw[I];exact(mQ (X:=X) e1 ⟨_,m1,w1⟩ F).2.2
       .exact Y z c
      .rw[any_cons,I,U];exact ak h
theorem DRels.look{K:aF}{k:Key}{kvs:List (Key×D)}{vs:List (Key×V)}(h:DRels K H G m kvs vs):
  (match bV kvs k with|some d=>∃v,eZ vs k=some v/\VRel K H G m d v|none=>eZ vs k=none):=by
 induction h with
 |nil=>exact tZ
 | @cons k' d v ds vs hv t ih=>
  unfold bV;by_cases e:k'=k
  .rw[if_pos e];exact⟨v,fS e,hv⟩
  .rw[if_neg e,dU (p:=(k',v)) (r:=vs) e];exact ih
theorem iE{K:aF}{k:Key}(h:ke x=some k)(r:VRel K H G m x v):v=kV k:=by cases r<;>cases h<;>rfl
theorem wn{K:aF}{st:aU}{kvs:List (Key×D)}(S:Sim K H G st)(e:fM st y=some kvs)(c:VRel K H G st.length y vy):∃n a vs,y=.ref n/\st[n]? =some (.dct kvs)/\a=G n/\vy=.ref a/\H a=some (.dK vs)/\DRels K H G st.length kvs vs:=by
 cases y with
 |ref n=>
  simp only[fM] at e;cases q:st[n]? with
  |none=>rw[q] at e;cases e
  |some o=>
   rw[q] at e;cases o with
   |dct kvs'=>cases e;cases c;obtain⟨vs,h1,r⟩:=S.ob _ _ q;exact⟨n,_,vs,rfl,q,rfl,rfl,h1,r⟩
   |_=>cases e
 |_=>cases e
theorem lO{K:aF}{st:aU}{k:Bool}(S:Sim K H G st)(e:jd st x y=some k)(z:VRel K H G st.length x vx)(c:VRel K H G st.length y vy):∃a,vy=.ref a/\∃o,gM H a vx o/\o.isSome=k:=by
 unfold jd at e;split at e
 .split at e
  .rename_i kvs q;cases c;obtain⟨vs,h1,r⟩:=S.ob _ _ q;refine⟨_,rfl,?_⟩;split at e
   .rename_i s F;have e:=ak e;subst e;have B:=iE F z;subst B;refine⟨_,gM.k (k:=s) h1,?_⟩;have l:=r.look (k:=s);cases q2:bV kvs s with
    |none=>rw[q2] at l;rw[show eZ vs s=none from l];rfl
    |some d=>rw[q2] at l;obtain⟨v,l,_⟩:=l;rw[show eZ vs s=some v from l];rfl
   .cases e
  .cases e
 .cases e
theorem vo(hu:X.A.units+100<cLine)(op:CmpOp):oY X (compareOp op) (rD X.K<|cZ op):=by
 intro pins s W H vx vy ux uy Q I rx B h;obtain⟨G,st,dx,dy,S,hx,U,P⟩:=h;have ax:At X.K H G st.length dx ux:=⟨_,hx,rx⟩;have ay:At X.K H G st.length dy uy:=⟨_,U,B⟩;unfold cZ at P;split at P
 .split at P
  .rename_i k e;obtain⟨h1,_⟩:=v8 (A:=X.A) I S e ax ay (by omega)
   exact h1 _ _ _ _ ⟨.bl k,H,I,rfl,P.same S<|.bl k⟩
  .exact False.elim P
 .split at P
  .rename_i k e;obtain⟨_,h1⟩:=v8 (A:=X.A) I S e ax ay (by omega)
   exact h1 _ _ _ _ ⟨.bl<|!k,H,I,rfl,P.same S<|.bl<|!k⟩
  .exact False.elim P
 .split at P
  .cases hx;cases U;exact CM pins s W H _ _ _ _ Q I rx B ⟨_,_,rfl,rfl,P.same S<|.bl _⟩
  .exact False.elim P
 .split at P
  .cases hx;cases U;exact CN pins s W H _ _ _ _ Q I rx B ⟨_,_,rfl,rfl,P.same S<|.bl _⟩
  .exact False.elim P
 .split at P
  .rename_i ys es;split at P
   .rename_i k z;obtain⟨a,vs,rfl,c,rv⟩:=U.seq S es;cases B;rcases c with c|c
    .obtain⟨its,F,J,hz⟩:=I.list c;obtain⟨Z,Y⟩:=kQ (X:=X) (s:=s) (A:=X.A.in1) ax z ⟨_,rv,F⟩;refine SeqAt.in_listAt _ J.isList (λw hw=>Z w (by simpa using hw)) ⟨.bl _,H,I,rfl,?_⟩
     rw[show its.toArray.any (eU dx)=its.any (eU dx) by simp,Y]
     exact P.same S<|.bl k
    .obtain⟨its,F,J,hz⟩:=I.tuple c;obtain⟨Z,Y⟩:=kQ (X:=X) (s:=s) (A:=X.A.in1) ax z ⟨_,rv,F⟩;refine SeqAt.in_tupleAt _ J (λw hw=>Z w (by simpa using hw)) ⟨.bl _,H,I,rfl,?_⟩
     rw[show its.toArray.any (eU dx)=its.any (eU dx) by simp,Y]
     exact P.same S<|.bl k
   .exact False.elim P
  .split at P
   .rename_i k z;obtain⟨a,rfl,o,g,ho⟩:=lO S z hx U;cases B;exact Fg (by omega) I g rx λs' I'=>⟨.bl k,H,I',by rw[ho];rfl,P.same S<|.bl k⟩
   .exact False.elim P
 .split at P
  .rename_i ys es;split at P
   .rename_i k z;obtain⟨a,vs,rfl,c,rv⟩:=U.seq S es;cases B;rcases c with c|c
    .obtain⟨its,F,J,hz⟩:=I.list c;obtain⟨Z,Y⟩:=kQ (X:=X) (s:=s) (A:=X.A.in1) ax z ⟨_,rv,F⟩;refine SeqAt.notIn_listAt _ J.isList (λw hw=>Z w (by simpa using hw)) ⟨.bl _,H,I,rfl,?_⟩
     rw[show its.toArray.any (eU dx)=its.any (eU dx) by simp,Y]
     exact P.same S<|.bl<|!k
    .obtain⟨its,F,J,hz⟩:=I.tuple c;obtain⟨Z,Y⟩:=kQ (X:=X) (s:=s) (A:=X.A.in1) ax z ⟨_,rv,F⟩;refine SeqAt.notIn_tupleAt _ J (λw hw=>Z w (by simpa using hw)) ⟨.bl _,H,I,rfl,?_⟩
     rw[show its.toArray.any (eU dx)=its.any (eU dx) by simp,Y]
     exact P.same S<|.bl<|!k
   .exact False.elim P
  .split at P
   .rename_i k z;obtain⟨a,rfl,o,g,ho⟩:=lO S z hx U;cases B;exact yH (by omega) I g rx λs' I'=>⟨.bl<|!k,H,I',by rw[ho];rfl,P.same S<|.bl<|!k⟩
   .exact False.elim P
 .exact False.elim P
theorem rR{K:aF}{ds:List D}{i:Int}(r:VRels K H G m ds vs)(e:iM ds i=some d):∃v,iM vs i=some v/\VRel K H G m d v:=by
 unfold iM at e ⊢;rw[<-r.length];cases q:sO ds.length i with
 |none=>rw[q] at e;cases e
 |some j=>rw[q] at e;exact r.get e
theorem wk(hu:X.A.units+100<cLine){value slice:Expr}{pins:List (Addr×Obj)}{s:Shared}{W:L2.St}{z c:Value}{Q:VK}{st:aU}{dx:D}{k:Key}(I:L2.Inv X pins W H s)(S:Sim X.K H G st)(Y:VRel X.K H G st.length dx vx)
  (U:RelV vx z)(J:RelV (kV k) c)(hs:subscripted slice false z c=operate [z,c] (getItem z c))(P:cv X.K H G st (BR st dx k) Q):wpAny (model X.prog X.w) X.A (subscriptTail value slice z c) (EP X pins W Q) X.xe s:=by
 unfold BR at P;split at P
 .rename_i n;split at P
  .rename_i kvs e1;split at P
   .rename_i d ek;cases Y;cases U;obtain⟨vs,h1,r⟩:=S.ob _ _ e1;have l:=r.look (k:=k);rw[ek] at l;obtain⟨w,Z,B⟩:=l;have g:gM H (G n) (kV k) (some w):=by rw[<-Z];exact gM.k (k:=k) h1
    exact tail_any (oO I g) PySem.F.slot_dict_getitem.lookup (s_ (by omega) I g J λw' s' I' rw2=>⟨w,H,I',rw2,P.same S B⟩) hs
   .exact False.elim P
  .exact False.elim P
 .exact False.elim P
theorem EV(Y:X.A.units+100<cLine):Ec X (rD X.K index):=by
 intro value slice pins s W H vx vy ux uy Q I F B h hs;obtain⟨G,st,dx,dy,S,U,J,P⟩:=h;have sz:sizeLine=16777216:=sizeLine_eq;unfold index at P;split at P
 .split at P
  .rename_i xs es;split at P
   .rename_i d ed;cases J;obtain⟨a,vs,rfl,z,rv⟩:=U.seq S es;obtain⟨w,Z,c⟩:=rR rv ed;rcases z with z|z
    .exact yk value slice pins s W H _ _ _ _ Q I F B ⟨_,_,_,_,rfl,rfl,z,Z,P.same S c⟩ hs
    .exact A2 value slice pins s W H _ _ _ _ Q I F B ⟨_,_,_,_,rfl,rfl,z,Z,P.same S c⟩ hs
   .exact False.elim P
  .cases J;exact wk (k:= .inl _) Y I S U F B hs P
 .cases J;exact wk (k:= .inr _) Y I S U F B hs P
 .exact False.elim P
end Ev
namespace PySem
open Sem (wp)
open AutoSeq1 (wpAny_loadPart')
section
end
end PySem
namespace L2
open PySem PySem.Spec PyProof.Rows
theorem bn.rev:∀{xs:List V}{us:List Value},bn xs us->bn xs.reverse us.reverse
 |_,_,.nil=>.nil
 |_,_,.cons r t=>by rw[reverse_cons,reverse_cons];exact(bn.rev t).append<|.cons r .nil
end L2
namespace PySem
open Sem (wp)
open AutoSeq1 (wpAny_loadPart')
namespace F
theorem fm:plainId "dict.update.loop"=true:=by decide+kernel
theorem kG:entryFor table "dict.update.loop"=some Builtin.«dict.update.loop»:=entryFor_of_fast (by kernel_rfl)
theorem k4:typeLookup (.type "list") "keys"=pure none:=by rw[typeLookup_type,builtinLookup_eq_fast];kernel_rfl
end F
section
variable{prog:Program}{w:World}{K:Type}[DecidableEq K]{kn:KeyKind prog w K}{A:Around}{E:Value->Shared->Prop}
def qi(kn:KeyKind prog w K)(h:Heap)(items:Array Value)(ps:List (K×Value)):Prop:=
 items.size=ps.length/\∀(j:Nat)(x:K×Value),ps[j]? =some x->∃(t:Addr)(o:Obj)(n:Nat) (u:Value),items[j]? =some (.ref t)/\h.get? t=some o/\o.cls=.type "tuple" /\o.data=.seq #[u,x.2] n/\kn.is x.1 u=true
noncomputable def fL(ps acc:List (K×Value)):List (K×Value):=ps.foldl (λacc x=>stored acc x.1 x.2) acc
theorem lN:∀(ps acc:List (K×Value)),(fL ps acc).length<=acc.length+ps.length
 |[],acc=>by show acc.length<=_;omega
 |x::r,acc=>by
  have h1:=lN r<|stored acc x.1 x.2;have h2:(stored acc x.1 x.2).length<=acc.length+1:=by unfold stored;split<;>simp
  show(fL r<|stored acc x.1 x.2).length<=_;rw[length_cons];omega
theorem pZ{ps acc:List (K×Value)}{x:K×Value}:fL (ps++[x]) acc=stored (fL ps acc) x.1 x.2:=by unfold fL;rw[List.foldl_append];rfl
theorem nX{R:Result->Shared->Prop}(hh:A.handled=none){h0:Heap}{d it l:Addr}(hd0:h0.get? d=none)(hi0:h0.get? it=none)(I:d≠it){items:Array Value}{ps:List (K×Value)}(hsz:items.size<=sizeLine)
  (hl:h0.IsList l items)(hp:qi kn h0 items ps):∀(k i:Nat)(s:Shared),items.size - i=k->i<=items.size->s.heap.IsListIter it l i->(∀b o,h0.get? b=some o->s.heap.get? b=some o)->s.heap.DictOf kn d (fL (ps.take i) [])->
  (∀h' tk,h'.DictOf kn d (fL ps [])->(∀b o,h0.get? b=some o->h'.get? b=some o)->R (.ok<|.ret .none) {s with heap:=h',toks:=tk})->
  codeAny (model prog w) A (.builtin "dict.update.loop" ⟨[.ref d,.ref it,rawInt i,.none],[]⟩) R s:=by
 have nd:∀{b:Addr}{o:Obj},h0.get? b=some o->b≠d:=λe z=>by rw[z,hd0] at e;cases e
 have ni:∀{b:Addr}{o:Obj},h0.get? b=some o->b≠it:=λe z=>by rw[z,hi0] at e;cases e
 intro k
 induction k with
 |zero=>
  intro i s hk hi H J hd hR;have hin:i=items.size:=by omega
  subst hin;refine codeAny_builtin F.kG ?_;rw[Around.under_plainId F.fm _];show wpAny _ A.in1 (pyNext (.ref it)>>=_) _ _ s;refine ae<|wpAny_pyNext_list_end hh H (hl.at λo e=>J _ _ e) (by simp) λh' eb=>?_
  show wpAny _ _ (Builtin.Dict.addKeywords d []>>=_) _ _ _;refine ae<|ai<|ai ?_;rw[hp.1,take_length] at hd;exact hR h' s.toks (hd.at λo e=>eb d o I e)<|λb o e=>eb b o (ni e)<|J b o e
 |succ k ih=>
  intro i s hk hi H J hd hR;have hlt:i<items.size:=by omega
  have U:i<ps.length:=by rw[<-hp.1];exact hlt
  obtain⟨t,ot,nt,u,e1,e2,e3,e4,e5⟩:=hp.2 i ps[i] (by simp[U])
  refine codeAny_builtin F.kG ?_;rw[Around.under_plainId F.fm _];show wpAny _ A.in1 (pyNext (.ref it)>>=_) _ _ s;refine ae<|wpAny_pyNext_list_item H (hl.at λo e=>J _ _ e) e1 λh1 Y B=>?_
  replace B:Heap.SameBut it s.heap h1:=B
  have kp1:∀b o,h0.get? b=some o->h1.get? b=some o:=λb o e=>B.extBut b o (ni e)<|J b o e;have t1:h1.get? t=some ot:=kp1 t ot e2;refine ae<|wpAny_holding<|ae<|wpAny_tryCatch ?_;unfold Builtin.Dict.pairItems;refine ae<|wpAny_typeOf (T:= "tuple") ⟨ot,t1,e3⟩ ?_;rw[if_pos (by decide)]
  refine ae<|wpAny_seqItems t1 e4<|ai ?_;show wpAny _ _ (holding [u,ps[i].2]<|dictSet d u ps[i].2) _ _ _;have hd1:h1.DictOf kn d (fL (ps.take i) []):=hd.at λo e=>B.extBut d o I e;have fl:=lN (ps.take i) ([]:List (K×Value))
  have hfl:(fL (ps.take i) []).length<=sizeLine:=by rw[length_take] at fl;simp at fl;omega
  refine wpAny_holding<|wpAny_dictSet_pairs (s:={s with heap:=h1}) e5 hd1 (λh2 Z c=>?_) hfl
  replace c:Heap.SameBut d h1 h2:=c
  refine ai ⟨plainId_quiet F.fm _,?_⟩;have c1:((i+1:Nat):Int)=(i:Int)+1:=by omega
  have ht:ps.take (i+1)=ps.take i++[ps[i]]:=by rw[List.take_succ,af U];rfl
  rw[<-pZ,<-ht] at Z;have:=λtk=>ih (i+1) {s with heap:=h2,toks:=tk} (by omega) (by omega) (Y.at λo q=>(c.2 it<|Ne.symm I).trans q) (λb o e=>(c.2 b<|nd e).trans<|kp1 b o e) Z hR
  rw[c1] at this;exact this _
theorem pL{s:Shared}{a:Addr}{xs:Array Value}{k:Nat}{Q:Option Value->Shared->Prop}(B:s.heap.get? a=some {cls:= .type "list",data:= .seq xs k})(J:A.handled=none)
  (h:∀h' tk,(∀b o,s.heap.get? b=some o->h'.get? b=some o)->Q none {s with heap:=h',toks:=tk}):wpAny (model prog w) A (getAttr? (.ref a) "keys") Q E s:=by
 obtain⟨I,g,d,tk,os⟩:=s;have H:∀c,(⟨I,g,d,c,os⟩:Shared).TypeIs (.ref a) "list":=λ_=>⟨_,B,rfl⟩;have f1:=sub_AttributeError;have f3:=F.slot_list_getattribute.lookup;have f4:=F.slot_list_getattribute.bind<|.ref a;have Z:=am_list_getattr_none;unfold getAttr? getAttrBy? getAttrBy
 repeat (any_goals (first|assumption|exact H _|((with_reducible show wpAny _ _ (call (Value.builtin "list.__getattribute__") _ _) _ _ _);refine call_meets F.slot_list_getattribute (H _) am_entry_list_getattribute (F.args_list_getattribute_2 _ _) (meets_getattribute_miss_list a xs k #[] "keys" _ F.k4 (by decide+kernel) (by size_fits)) ⟨B,J,λh' c e z=>?_⟩)|wp_step))
 obtain⟨t',U,Y⟩:=z.there;show wpAny _ _ (getattributeRaised _ _ _ _ _ _ _) _ _ _;unfold getattributeRaised
 repeat (any_goals (first|assumption|wp_step))
 exact h _ _ z.keeps
theorem kI{s:Shared}{l:Addr}{items:Array Value}{c:Nat}{ps:List (K×Value)}{Q:Value->Shared->Prop}(Y:A.handled=none)(U:s.heap.get? l=some {cls:= .type "list",data:= .seq items c})(Z:qi kn s.heap items ps)(hsz:items.size<=sizeLine)
  (hQ:∀h' tk,h'.DictOf kn s.heap.objs.size (fL ps [])->(∀b o,s.heap.get? b=some o->h'.get? b=some o)->Q (.ref s.heap.objs.size) {s with heap:=h',toks:=tk}):wpAny (model prog w) A (call (.type "dict") [.ref l]) Q E s:=by
 refine callType_codes (Q₁:=λobj s₁=>obj=.ref s.heap.objs.size/\s₁={s with heap:=s.heap.push {cls:= .type "dict",data:= .dict #[]}}) F.kt_called_dict (F.kt_typeCall_dict_1 _) F.entry_dict_init (kt_code_dict_new _ ⟨rfl,rfl⟩) ?_;rintro obj s₁ ⟨rfl,rfl⟩;have z:(s.heap.push {cls:= .type "dict",data:= .dict #[]}).DictOf kn s.heap.objs.size []:=Heap.DictOf.new s.heap;have g0:(s.heap.push {cls:= .type "dict",data:= .dict #[]}).get? s.heap.objs.size=some {cls:= .type "dict",data:= .dict #[]}:=aC _ rfl;refine⟨z.typeIs,F.args_dict_init_2 _ _,?_⟩;unfold Builtin.«dict.__init__» Builtin.Dict.selfAndRest;refine ae<|ae<|wpAny_notOrdered_dict z.typeIs ?_;show wpAny _ _ (pure (s.heap.objs.size,[Value.ref l])) _ _ _;refine ai ?_;show wpAny _ _ (Builtin.Dict.updateFrom "dict.__init__" s.heap.objs.size (.ref l) [] .none) _ _ _;unfold Builtin.Dict.updateFrom;have B:=ah {cls:= .type "dict",data:= .dict #[]} U;refine ae<|wpAny_typeOf (T:= "list") ⟨_,B,rfl⟩ ?_;rw[if_pos (by decide)]
 refine ae<|pL B Y λh1 tk1 H=>?_;simp only[Option.isNone_none,if_true];refine ae<|wpAny_rule ?_;have I:h1.IsList l items:=⟨_,H _ _ B,rfl,_,rfl⟩;refine ae<|wpAny_pyIter_list (s:={s with heap:=h1,toks:=tk1}) I ?_;refine ai ⟨plainId_quiet F.fm _,?_⟩;have lt1:s.heap.objs.size<h1.objs.size:=au (H _ _ g0);have J:∀{a:Addr},s.heap.objs.size<=a->s.heap.get? a=none:=λh=>Heap.get?_none_of_le h
 refine nX (A:=A.in1) (kn:=kn) (h0:=s.heap) Y (J<|aa _) (J<|le_of_lt lt1) (aw lt1) hsz ⟨_,U,rfl,_,rfl⟩ Z items.size 0 _ (by omega) (by omega) ⟨_,aC _ rfl,rfl,rfl⟩
  (λb o e=>ah _<|H b o<|ah _ e) (z.at λo e=>ah _<|H _ o e) λh' tk a b=>⟨rfl,hQ h' tk a b⟩
end
end PySem
namespace L2
open PySem PySem.Spec PyProof.Rows
def Fo(K:aF)(H:Hp):List (Key×V)->List V->Prop:=Paired λp y=>∃t,y=.ref t/\fP K H t [kV p.1,p.2]
def Bg(ps:List (Key×V)):List (Key×V):=ps.foldl (λacc p=>putK acc p.1 p.2) []
section
variable{X:Cx}{pins:List (Addr×Obj)}{s:Shared}{W:St}{H:Hp}
theorem sG(I:Inv X pins W H s){ps:List (Key×V)}{ys:List V}(r:Fo X.K H ps ys):∀{us:List Value},bn ys us->∃c:List (Key×Value),qi (bF X.prog X.w) s.heap us.toArray c/\KV ps c:=by
 induction r with
 |nil=>intro us q;cases q;exact⟨[],⟨rfl,λj x e=>by simp at e⟩,.nil⟩
 | @cons p y ps ys h1 t ih=>
  intro us q;cases q with
  | @cons _ u _ us' q1 q2=>
   obtain⟨c,⟨g1,g2⟩,g3⟩:=ih q2;obtain⟨ta,rfl,hq⟩:=h1;obtain rfl:u=Value.ref ta:=q1;obtain⟨its,rv,⟨o,Z,Y,n,U⟩,_⟩:=I.tuple hq;cases rv with
   | @cons _ u1 _ its r1 rv=>
    cases rv with
    | @cons _ u2 _ its r2 rv=>
     cases rv;refine⟨(p.1,u2)::c,⟨by simpa using g1,λj x e=>?_⟩,.cons ⟨rfl,r2⟩ g3⟩
     cases j with
     |zero=>
      cases e;exact⟨ta,o,n,u1,by simp,Z,Y,U,iF r1⟩
     |succ j=>
      obtain⟨t',o',B,z,J,F⟩:=g2 j x (by simpa using e)
      exact⟨t',o',B,z,by simpa using J,F⟩
theorem yj{ps:List (Key×V)}{c:List (Key×Value)}(r:KV ps c):∀{acc:List (Key×V)}{xs:List (Key×Value)},KV acc xs->KV (ps.foldl (λacc p=>putK acc p.1 p.2) acc) (fL c xs):=by
 induction r with
 |nil=>intro acc xs q;exact q
 | @cons p q ps qs h t ih=>intro acc xs z;show KV (ps.foldl _<|putK acc p.1 p.2)<|fL qs<|stored xs q.1 q.2;have:=z.put p.1 h.2;rw[h.1] at this ⊢;exact ih this
theorem kB:∀(ps acc:List (Key×V)),(ps.foldl (λacc p=>putK acc p.1 p.2) acc).length<=acc.length+ps.length
 |[],acc=>by simp
 |p::r,acc=>by have h1:=kB r<|putK acc p.1 p.2;have h2:=eI acc p.1 p.2;rw[List.foldl_cons,length_cons];omega
theorem qe(Z:X.calm=true):eM X (.type "dict") (λxs H Q=>∃l ys ps,xs=[.ref l]/\H l=some (.lst ys)/\Fo X.K H ps ys/\∀p,H p=none->Q (.ref p) (upd H p<|.dK<|Bg ps)):=by
 intro pins s W H xs us Q I r h;obtain⟨l,ys,ps,rfl,e,B,q⟩:=h;obtain⟨u,rfl,U⟩:=vals1 r;cases U;obtain⟨z,its,m,c,F,el⟩:=I.lstM e;obtain⟨J,h1,h2⟩:=sG I B c;have lp:=Paired.length B;have lr:=Paired.length c;refine kI (I.ok.hd Z) el h1 (by rw[size_toArray];omega) λh' tk dr Y=>?_
 have fr:H s.heap.objs.size=none:=I.hok.fresh<|aa _;have:=kB ps [];refine⟨.ref s.heap.objs.size,_,I.laid (t':=tk) Y (aa _)<|mU (by simp at this;omega) (beq_eq_false_iff_ne.mpr<|bd I.big) (yj h2 .nil) dr,rfl,q _ fr⟩
end
end L2
namespace Ev
open PySem PySem.Spec PyProof.Rows L2
variable{m:Nat}{G G1:Nat->Addr}{H:Hp}{vs:List (Key×V)}{kvs:List (Key×D)}{v:V}{d x:D}{Q:VK}{st st0 st1:aU}{a e o:Expr}{sc:Scope}{α:Type}
theorem rL{K:aF}{ds:List D}{vs:List V}(r:VRels K H G m ds vs)(lo hi:Option Int):VRels K H G m (cutD ds lo hi) (oP vs lo hi):=by unfold cutD oP;rw[<-r.length];exact(r.drop _).take _
theorem EC{X:Cx}:Ea X (λvx lo hi H Q=>∃G st dx,Sim X.K H G st/\VRel X.K H G st.length dx vx/\cv X.K H G st (slice dx lo hi st) Q):=by
 intro pins s W H x v vl vu lo hi sl Q I B hs J F h;obtain⟨G,st,dx,S,z,P⟩:=h;have sz:sizeLine=16777216:=sizeLine_eq;unfold slice at P;split at P
 .split at P
  .exact False.elim P
  .rename_i hw;cases z with
   |tup ha ra=>
    exact zY pins s W H _ v vl vu lo hi sl Q I B hs J F ⟨_,_,rfl,ha,by rw[<-ra.length];exact hw,P.tup S<|rL ra lo hi⟩
 .split at P
  .rename_i xs es;obtain⟨a,vs,rfl,c,rv⟩:=z.seq S es;rcases c with c|c
   .exact xq pins s W H _ v vl vu lo hi sl Q I B hs J F ⟨_,_,rfl,c,P.alloc S<|rL rv lo hi⟩
   .exfalso;cases z with
    |tup _ _=>exact(‹∀bs:List D,¬D.tup _=D.tup bs› _) rfl
    |fl h _=>exact z4 I c h.sql
    |ref h=>
     obtain⟨u,e',Y,U⟩:=S.obj h;rcases xh I c with⟨_,e⟩|⟨_,_,hk,e⟩|e<;>rw[e] at e'<;>first|(cases e';done)|(cases e';exact absurd rfl<|Y _)|(cases e';exact absurd rfl<|U _ _ hk)
  .exact False.elim P
def rB(K:aF)(f:Bt):List V->Hp->VK->Prop:=λvs H Q=>∃G st ds,Sim K H G st/\VRels K H G st.length ds vs/\cv K H G st (dD f ds st) Q
noncomputable def Bt.val:Bt->Value
 | .len=>.builtin "len"
 | .list=>.type "list"
 | .tuple=>.type "tuple"
 | .dict=>.type "dict"
 | .sorted=>.builtin "sorted"
 | .sum=>.builtin "sum"
 | .int=>.type "int"
theorem DRels.anyK{K:aF}{k:Key}(h:DRels K H G m kvs vs):(kvs.any λkv=>decide<|kv.1=k)=vs.any λkv=>decide (kv.1=k):=by
 induction h with
 |nil=>rfl
 |cons h t ih=>rw[any_cons,any_cons,ih]
theorem DRels.repl{K:aF}{k:Key}(h:DRels K H G m kvs vs)(q:VRel K H G m d v):DRels K H G m (kvs.map λkv=>if kv.1=k then(kv.1,d) else kv) (vs.map λkv=>if kv.1=k then(kv.1,v) else kv):=by
 induction h with
 |nil=>exact .nil
 | @cons k' d' v' ds vs h t ih=>
  rw[map_cons,map_cons];by_cases e:k'=k
  .rw[if_pos e,if_pos e];exact .cons q ih
  .rw[if_neg e,if_neg e];exact .cons h ih
theorem DRels.put{K:aF}{k:Key}(h:DRels K H G m kvs vs)(q:VRel K H G m d v):DRels K H G m (bD kvs k d) (putK vs k v):=by
 unfold bD putK;rw[h.anyK];split
 .exact h.repl q
 .exact h.append<|.cons q .nil
theorem qH{K:aF}{H:Hp}{G:Nat->Addr}{m:Nat}:∀{ds:List D}{vs:List V}{ps:List (Key×D)},su ds=some ps->VRels K H G m ds vs->∃c,Fo K H c vs/\DRels K H G m ps c
 |[],_,_,h,.nil=>by cases h;exact⟨[],.nil,.nil⟩
 |d::ds,_,_,h,.cons (v:=v) (vs:=vs) r t=>by
  obtain⟨p,h1,h⟩:=bs h;obtain⟨ps,h2,rfl⟩:=map_some h;obtain⟨c,q1,q2⟩:=qH h2 t;cases d with
  |tup xs=>
   obtain⟨z,F,h1⟩:=bs h1;obtain⟨k,B,rfl⟩:=map_some h1;cases gI F;cases r with
   |tup hq rr=>
    cases rr with
    |cons ra rr=>
     cases rr with
     |cons rb rr=>cases rr;have:=iE B ra;subst this;exact⟨(k,_)::c,.cons ⟨_,rfl,hq⟩ q1,.cons rb q2⟩
  |_=>cases h1
theorem oM{K:aF}{H:Hp}{G:Nat->Addr}{m:Nat}:∀{ps:List (Key×D)}{z:List (Key×V)},DRels K H G m ps z->∀{acc:List (Key×D)}{c:List (Key×V)},DRels K H G m acc c->DRels K H G m (ps.foldl (λacc p=>bD acc p.1 p.2) acc) (z.foldl (λacc p=>putK acc p.1 p.2) c)
 |_,_,.nil,_,_,q=>q
 |_,_,.cons h t,_,_,q=>oM t<|q.put h
theorem cv.allocK{K:aF}(S:Sim K H G st)(P:cv K H G st (.ok (.ref st.length)<|st++[.dct kvs]) Q)(r:DRels K H G st.length kvs vs):∀p,H p=none->Q (.ref p) (upd H p<|.dK vs):=λp c=>by
 obtain⟨G',E,e,z⟩:=S.laid (o:= .dct kvs) (ho:= .dK vs) c<|λG' h1 h2=>⟨vs,bf,r.ext0 ⟨le_succ _,h1,λb xs e=>by rw[aI<|aN e c];exact e,λb B u e=>by rw[aI<|aN e c];exact e⟩⟩
 have l:(st++[O.dct kvs]).length=st.length+1:=by simp
 refine P _ G' _ (by rw[l];exact E) z ?_
 rw[<-e,l];exact .ref<|aJ _
theorem j7{K:aF}{H:Hp}{G:Nat->Addr}{m:Nat}:∀{ds:List D}{vs:List V}{ns:List Int},lD ds=some ns->VRels K H G m ds vs->vs=ns.map V.int
 |[],_,_,h,.nil=>by cases h;rfl
 |d::ds,_,_,h,.cons (v:=v) (vs:=vs) r t=>by
  cases d with
  |int i=>obtain⟨ms,h1,rfl⟩:=map_some h;cases r;rw[j7 h1 t];rfl
  |_=>cases h
theorem iZ{K:aF}{H:Hp}{G:Nat->Addr}{m:Nat}:∀ns:List Int,VRels K H G m (ns.map .int) (ns.map V.int)
 |[]=>.nil
 |n::ns=>.cons (.int n)<|iZ ns
theorem jS:∀{kvs:List (Key×D)}{ns:List Str},ji kvs=some ns->kvs.map (·.1)=ns.map (Sum.inr:Str->Key)
 |[],ns,h=>by cases h;rfl
 |(.inr n,d)::r,ns,h=>by
  unfold ji at h;cases q:ji r with
  |none=>rw[q] at h;cases h
  |some ms=>rw[q] at h;cases h;rw[map_cons,map_cons,jS q]
 |(.inl n,d)::r,ns,h=>by cases h
theorem lc{K:aF}{H:Hp}{G:Nat->Addr}{m:Nat}:∀ns:List Str,VRels K H G m (ns.map .str) (ns.map V.str)
 |[]=>.nil
 |n::ns=>.cons (.str n)<|lc ns
theorem qQ{X:Cx}{ns:List Int}(S:Sim X.K H G st)(z:VRel X.K H G st.length x v)(c:numsOf st x=some ns):∃a,v=.ref a/\H a=some (.lst<|ns.map V.int):=by
 cases x with
 |ref n=>
  simp only[numsOf] at c;split at c
  .rename_i xs q;cases z with
   |ref hn'=>obtain⟨vs,F,B⟩:=S.ob _ _ q;have e:=j7 c B;subst e;exact⟨_,rfl,F⟩
  .cases c
 |_=>cases c
theorem p7{K:aF}{ds:List (Key×D)}(h:DRels K H G m ds vs):ds.map (·.1)=vs.map (·.1):=by
 induction h with
 |nil=>rfl
 |cons h t ih=>rw[map_cons,map_cons,ih]
theorem Bz{X:Cx}(hc:X.calm=true)(f:Bt):eM X f.val (rB X.K f):=by
 intro pins s W H xs us Q I r h;obtain⟨G,st,ds,S,rv,P⟩:=h;have sz:sizeLine=16777216:=sizeLine_eq;cases ds with
 |nil=>exact False.elim P
 |cons x ds=>cases ds with
  |cons y ds=>exact False.elim P
  |nil=>
  obtain⟨v,rfl,z⟩:=rv.inv1
  replace P:cv X.K H G st (oU f x st) Q:=P
  cases f with
  |len=>
   simp only[oU] at P;split at P
   .rename_i ys es;obtain⟨a,vs,rfl,B,J⟩:=z.seq S es;exact mZ pins s W H _ us Q I r ⟨_,_,rfl,B,by rw[<-J.length];exact P.same S<|.int _⟩
   .split at P
    .rename_i kvs es;obtain⟨n,a,vs,rfl,q,ea,rfl,F,U⟩:=wn S es z;obtain⟨u,rfl,Y⟩:=vals1 r;cases Y;exact DE I (.inl F) λt s' I'=>⟨.int kvs.length,H,I',by rw[U.length];exact⟨t,rfl⟩,P.same S<|.int _⟩
    .exact False.elim P
  |list=>
   simp only[oU] at P;split at P
   .rename_i ys es;obtain⟨a,vs,rfl,B,J⟩:=z.seq S es;exact mY pins s W H _ us Q I r ⟨_,_,rfl,B,P.alloc S J⟩
   .exact False.elim P
  |tuple=>
   simp only[oU] at P;split at P
   .rename_i ys es;obtain⟨a,vs,rfl,B,J⟩:=z.seq S es;rcases B with B|B
    .exact gS pins s W H _ us Q I r ⟨_,_,rfl,.inl ⟨B,P.tup S J⟩⟩
    .exact gS pins s W H _ us Q I r ⟨_,_,rfl,.inr ⟨B,P.same S<|.tup B J⟩⟩
   .exact False.elim P
  |dict=>cases x with
   |ref n=>
    simp only[oU] at P;split at P
    .rename_i xs q;split at P
     .rename_i ps Z;cases z with
      |ref c=>obtain⟨ys,h1,h2⟩:=S.ob _ _ q;obtain⟨qs,k1,k2⟩:=qH Z h2;exact qe hc pins s W H _ us Q I r ⟨_,ys,qs,rfl,h1,k1,P.allocK S<|oM k2 .nil⟩
     .exact False.elim P
    .rename_i kvs q;cases z with
     |ref c=>obtain⟨vs,F,U⟩:=S.ob _ _ q;obtain⟨u,rfl,Y⟩:=vals1 r;cases Y;exact wq I (.inl F) λp s' hp I'=>⟨.ref p,_,I',rfl,P.allocK S U p hp⟩
    .exact False.elim P
   |_=>exact False.elim P
  |sorted=>
   simp only[oU] at P;split at P
   .rename_i ns c;split at P
    .rename_i hl;obtain⟨a,rfl,F⟩:=qQ S z c;exact mX pins s W H _ us Q I r ⟨_,ns,rfl,dO.of F,hl,P.alloc S<|iZ _⟩
    .exact False.elim P
   .split at P
    .rename_i ns c;split at P
     .rename_i hl;cases x with
      |ref n=>
       simp only[o8] at c;split at c
       .rename_i kvs q;cases z with
        |ref hn'=>
         obtain⟨vs,F,U⟩:=S.ob _ _ q;have hk:=(p7 U).symm.trans<|jS c;exact k8 hc pins s W H _ us Q I r ⟨_,vs,ns,rfl,F,hk,by have:=congrArg List.length hk;simp at this;omega,hl.2,P.alloc S<|lc _⟩
       .cases c
      |_=>cases c
     .exact False.elim P
    .exact False.elim P
  |sum=>
   simp only[oU] at P;split at P
   .rename_i ns c;obtain⟨a,rfl,F⟩:=qQ S z c;exact tf hc pins s W H _ us Q I r ⟨_,ns,rfl,dO.of F,P.same S<|.int _⟩
   .exact False.elim P
  |int=>cases x with
   |bl b=>cases z;exact tj pins s W H _ us Q I r<|.inr ⟨b,rfl,P.same S<|.int _⟩
   |_=>exact False.elim P
def o0(P:Program)(w:World):wP:=λ_ _ _ _ _ _=>False
theorem za{P:Program}{w:World}{X:Cx}:kS (o0 P w) X E0:=λ_ _ _ _ _ _ _ z=>z.elim
section
variable{X:Cx}{pins:List (Addr×Obj)}{W:L2.St}{H:Hp}{s:Shared}
theorem qB{k:Nat}{f:Addr}{fd:FuncData}{ps:List Str}{sp:Sp}{us:List Value}{vs:List V}(F:FnOk X.prog X.w X.K X.mg X.base (o0 X.prog X.w) k f fd ps sp)(z:Room k X.A)(J:Binds X.K fd ps [])
  (I:Inv X pins W H s)(r:bn vs us)(h:sp vs H Q E0):wpAny (model X.prog X.w) X.A (call (.ref f) us) (EP X pins W Q) X.xe s:=by
 have B:(us++[]).length=ps.length:=by rw[append_nil,<-r.length];exact F.len _ _ _ _ h
 refine wpAny_call<|codeAny_mono (F.run X.A X.stack s H ⟨us,[]⟩ us vs Q _ z I.env0 (by have:=J s us I.kIn B;rwa [append_nil] at this) r h) λr s' c=>?_
 cases r with
 |error e=>exact c.elim
 |ok fl=>
  cases fl with
  |ret u=>exact I.after c
  |_=>exact False.elim c
end
theorem og{name:Str}{apos pos:Pos}{args:List Expr}{prog:Program}{w:World}{A:Around}{E:Value->Shared->Prop}{s:Shared}{env:Env}{Q:Value->Shared->Prop}
  (z:attributeBase o name env (eval o env)=eval o env)
  (F:methodCallForm (args.length+([]:List Keyword).length) (backTo pos<|starEach args env) (backToKw pos<|keywordEach [] env)=true)
  (c:(apos.endLine==pos.line)=true)
  (h:wpAny (model prog w) A (eval o env) (λov s₁=>∀I,wpAny (model prog w) A (getMethod ov name I) (λH s₂=>wpAny (model prog w) A (callWith pos H.1 H.2 (backTo pos<|starEach args env)<|backToKw pos<|keywordEach [] env) Q E s₂) E s₁) E s):
  wpAny (model prog w) A (eval (.Call (.Attribute o name apos) args [] pos) env) Q E s:=by
 rw[arm_eval_Call,z];refine ae<|a9 h (λov s₁ h₁=>?_) λ_ _ e=>e;refine ae<|wpAny_standAt ?_;have B:methodCallPos true o env apos pos=pure pos:=by unfold methodCallPos;simp[c]
 unfold methodCall;rw[F];refine ae<|wpAny_holding<|a9 (h₁ _) (λH J h2=>?_) λ_ _ e=>e;exact ae<|wpAny_of_eq B h2
def uc(X:Cx)(m:Str)(ta:TE)(t:TA):TE:=λW H Q=>ta W H λx H1=>∃a C dx fs f k fd ps sp,x=.ref a/\H1 a=some (.ins C dx fs)/\fs.lookup m=none/\Cls X.K C/\Meth X.K C m f/\
 FnOk X.prog X.w X.K X.mg X.base (o0 X.prog X.w) k f fd ps sp/\Room k X.A/\Binds X.K fd ps []/\t W H1 λvs H2=>∀E:XK,sp (.ref a::vs) H2 Q E
section
variable{X:Cx}{m:Str}{o e:Expr}{es:List Expr}{ta:TE}{t:TA}{apos pos:Pos}
theorem vh(he:PE X o ta)(B:attributeBase o m X.env (eval o X.env)=eval o X.env)(z:(apos.endLine==pos.line)=true)
  (J:methodCallForm ((e::es).length+([]:List Keyword).length) (backTo pos<|starEach (e::es) X.env) (backToKw pos<|keywordEach [] X.env)=true)(ha:PA X (e::es) t)
  (U:starEach (e::es) X.env=(false,eval e X.env)::starEach es X.env)(Y:(backTo pos<|starEach es X.env).any (·.1)=false):PE X (.Call (.Attribute o m apos) (e::es) [] pos) (uc X m ta t):=by
 intro pins s W H Q I h;refine og B J z<|bZ (he pins s W H _ I h) λu s1 hp pl=>?_;obtain⟨x,H1,I1,rx,a,C,dx,fs,f,k,fd,ps,sp,ex,ea,l,c,Z,F,hr,hb,q⟩:=hp;subst ex;obtain rfl:u=Value.ref a:=rx;refine kz I1 ea c Z l ?_;refine PySem.W.callWith_K (first:=[.ref a]) (h₀:=X.base) I.ok.mod.kin Z.kp (bZ (ha pos pins s1 W H1 _ I1 q) λus s2 ⟨vs,H2,I2,r,q2⟩=>⟨I2.kIn,?_⟩) U Y
 exact qB (us:= .ref a::us) (vs:= .ref a::vs) F hr hb I2 (.cons rfl r)<|q2 _
theorem sE(he:PE X o ta)(B:attributeBase o m X.env (eval o X.env)=eval o X.env)(z:(apos.endLine==pos.line)=true):PE X (.Call (.Attribute o m apos) [] [] pos) (uc X m ta xk):=by
 intro pins s W H Q I h;refine og B rfl z<|bZ (he pins s W H _ I h) λu s1 hp pl=>?_;obtain⟨x,H1,J,Y,a,C,dx,fs,f,k,fd,ps,sp,ex,ea,l,c,U,F,Z,hb,q⟩:=hp;subst ex;obtain rfl:u=Value.ref a:=Y;refine kz J ea c U l ?_;exact PySem.W.callWith_K0 (first:=[.ref a]) J.kIn U.kp<|qB (us:=[.ref a]) (vs:=[.ref a]) F Z hb J (.cons rfl .nil)<|q _
def EN(K:aF):List V->Hp->VK->Prop:=λxs H Q=>∃a C dx fs v c b,xs=[.ref a,v]/\H a=some (.ins C dx fs)/\Cls K C/\PySem.W.findIn K (.ref C) "__class__"=some (some<|.builtin "object.__class__")/\
 PySem.W.specialIn K (.builtin "object.__class__") "__get__"=some (some<|.builtin "getset_descriptor.__get__")/\PySem.W.takesIn K (.builtin "object.__class__")=some true/\PySem.W.mroIn K C (.type "object")=some true/\
 (∀u,RelV v u->u=c)/\PySem.W.kitOne K (.ref C) c=some b/\Q (.bl b) H
theorem wC:eM X (.builtin "isinstance") (EN X.K):=by
 intro pins s W H xs us Q I r h;obtain⟨a,C,dx,fs,v,c,b,ex,e,cl,h1,h2,J,F,z,B,q⟩:=h;subst ex;cases r with
 |cons r1 r2=>
  cases r2 with
  |cons r2 r3=>cases r3;cases z _ r2;exact sP I r1 (.ins e cl h1 h2 J F) B λtk=>⟨.bl b,H,I.tok tk,rfl,q⟩
end
theorem _root_.L2.PS.or{X:Cx}{e:Stmt}{t u:TS}(h1:PS X e t)(h2:PS X e u):PS X e (λD W H=>t D W H∨u D W H):=λpins s W H D I h=>h.elim (h1 pins s W H D I)<|h2 pins s W H D I
structure ICl where
 x:Str
 flds:List Str
 mts:List (Str×Nat)
structure Tab where
 fns:List Str
 isks:List (Str×List (Str×Bool))
 calm:Bool
 icl:List ICl
 mks:List (Str×Nat)
noncomputable def Tab.ics(T:Tab)(f:Str):List Str:=(T.icl.filter λc=>c.flds.contains f).map (·.x)
noncomputable def Tab.ims(T:Tab)(m:Str):List (Str×Nat):=T.icl.filterMap λc=>(c.mts.lookup m).map λj=>(c.x,j)
noncomputable def f6:List Str->Str->Option Nat
 |[],_=>none
 |y::r,x=>if y=x then some 0 else(f6 r x).map (· +1)
theorem cM:∀{N:List Str}{x:Str}{i:Nat},f6 N x=some i->N[i]? =some x
 |[],_,_,h=>by cases h
 |y::r,x,i,h=>by
  unfold f6 at h;split at h
  .rename_i e;cases h;rw[e];rfl
  .cases q:f6 r x with
   |none=>rw[q] at h;cases h
   |some j=>rw[q] at h;have:j+1=i:=ak h;subst this;simpa using cM q
noncomputable def BB:List (Str×Bt):=[("len",.len),("list",.list),("tuple",.tuple),("dict",.dict),("sorted",.sorted),("sum",.sum),("int",.int)]
noncomputable def tm:List Str:=["len","list","tuple","dict","sorted","sum","int","bool","isinstance","range","enumerate","set"]
noncomputable def DI:Operator->Option Bo
 | .Add=>some .add
 | .Sub=>some .sub
 | .Mult=>some .mul
 | .FloorDiv=>some .fdiv
 | .Mod=>some .mod
 | .Pow=>some .pow
 |_=>none
def dw(sc scope:Scope)(N xs:List Str):Bool:=
 (scope.kind== .function)&&decide ((qO scope).length<=1)&&decide ((xs++pH scope N).Nodup)&&
 (xs.all λx=>(scope.names.lookup x==some .local||scope.names.lookup x==some .cell)&&(x != "__debug__")&&(x != "__classdict__"))&&
 (scope.names.all λy=>(y.2 != .local||scope.names.lookup y.1==some .local)&&(y.2 != .free||sc.names.lookup y.1==some .cell||sc.names.lookup y.1==some .free))&&
 N.all λz=>(scope.names.lookup z !=some .local||scope.names.lookup (wR z)==none)&&decide ((z,NameKind.cell)∉scope.names)&&(wR z != "__debug__")&&(wR z != "__classdict__")
noncomputable def gZ(sc scope:Scope):Scope:=
 {scope with names:=scope.names.map λ(n,k)=>if(k== .free&&sc.kind== .function&&sc.names.lookup n==some .cell) then(n,.cell) else(n,k)}
noncomputable def bH(sc:Scope)(x:Str):Bool:=sc.names.lookup x==some .globalImplicit
noncomputable def fc:Expr->Bool
 | .Slice .. =>false
 |_=>true
noncomputable def FX(e:Expr):Option {q:Str×Pos // e= .Name q.1 q.2}:=match e with
 | .Name x p=>some ⟨(x,p),rfl⟩
 |_=>none
noncomputable def DJ(e:Expr):Option {q:Expr×Str×Pos // e= .Attribute q.1 q.2.1 q.2.2}:=match e with
 | .Attribute o m p=>some ⟨(o,m,p),rfl⟩
 |_=>none
noncomputable def BA(e:Expr):Option {q:Expr×List Expr×List Keyword×Pos // e= .Call q.1 q.2.1 q.2.2.1 q.2.2.2}:=match e with
 | .Call f as ks p=>some ⟨(f,as,ks,p),rfl⟩
 |_=>none
noncomputable def DG(e:Expr):Option {q:Const×Nat×Pos // e= .Constant q.1 q.2.1 q.2.2}:=match e with
 | .Constant c k p=>some ⟨(c,k,p),rfl⟩
 |_=>none
noncomputable def Ei(e:Expr):Option {q:List Expr×Nat×Pos // e= .Tuple q.1 q.2.1 q.2.2}:=match e with
 | .Tuple l k p=>some ⟨(l,k,p),rfl⟩
 |_=>none
noncomputable def Cn(e:Expr):Option {q:Option Expr×Option Expr×Option Expr×Pos // e= .Slice q.1 q.2.1 q.2.2.1 q.2.2.2}:=match e with
 | .Slice a b c p=>some ⟨(a,b,c,p),rfl⟩
 |_=>none
noncomputable def Eg(e:Expr):Option {q:Expr×Pos // e= .UnaryOp .USub q.1 q.2}:=match e with
 | .UnaryOp op a p=>(match op with
  | .USub=>some ⟨(a,p),rfl⟩
  |_=>none)
 |_=>none
noncomputable def ET(e:Expr):Option {q:Expr×List Comprehension×Scope×Pos // e= .ListComp q.1 q.2.1 q.2.2.1 q.2.2.2}:=match e with
 | .ListComp a b c p=>some ⟨(a,b,c,p),rfl⟩
 |_=>none
noncomputable def vq{α:Type}(l:List α):Option {u:Unit // l=[]}:=match l with
 |[]=>some ⟨(),rfl⟩
 |_=>none
def x_(e:Expr):Option Str:=(FX e).map λq=>q.1.1
theorem fo{x:Str}(h:x_ e=some x):∃p,e= .Name x p:=by obtain⟨⟨⟨_,p⟩,rfl⟩,_,rfl⟩:=map_some h;exact⟨p,rfl⟩
def yK(e:Expr):Option (Str×List Expr):=(BA e).bind λq=>(vq q.1.2.2.1).bind λ_=>(x_ q.1.1).map λx=>(x,q.1.2.1)
theorem kM{x:Str}{as:List Expr}(h:yK e=some (x,as)):∃p q,e= .Call (.Name x p) as [] q:=by
 obtain⟨⟨⟨f,c,ks,q⟩,rfl⟩,_,h⟩:=bs h;obtain⟨⟨_,z⟩,_,h⟩:=bs h;obtain⟨y,h1,h2⟩:=map_some h;cases h2;obtain⟨p,B⟩:=fo h1;exact⟨p,q,by show Expr.Call f c ks q= .Call (.Name x p) c [] q;rw[show f= .Name x p from B,show ks=[] from z]⟩
def wD(e:Expr):Option (Str×Expr):=(yK e).bind λp=>(one p.2).map λa=>(p.1,a)
theorem lR{r:Str}(h:wD e=some (r,a)):∃p q,e= .Call (.Name r p) [a] [] q:=by obtain⟨⟨x,as⟩,h1,h⟩:=bs h;obtain⟨b,h2,c⟩:=map_some h;cases c;cases cN h2;exact kM h1
noncomputable def Ck(o:Option Expr):Option Key:=o.bind λe=>(DG e).bind λq=>match q.1.1 with
 | .str k=>some<|.inr k
 | .int i=>some<|.inl i
 |_=>none
theorem ui{o:Option Expr}{k:Key}(h:Ck o=some k):∃c p q,o=some (.Constant c p q)/\((∃x,c=.str x/\k=.inr x)∨∃i,c=.int i/\k=.inl i):=by
 obtain⟨e,rfl,h1⟩:=bs h;clear h;obtain⟨⟨⟨c,p,q⟩,rfl⟩,_,h⟩:=bs h1;clear h1;cases c with
 |str=>cases h;exact⟨_,_,_,rfl,.inl ⟨_,rfl,rfl⟩⟩
 |int=>cases h;exact⟨_,_,_,rfl,.inr ⟨_,rfl,rfl⟩⟩
 |_=>cases h
noncomputable def rK:List (Option Expr)->Option (List Key)
 |[]=>some []
 |k::r=>(Ck k).bind λx=>(rK r).map (x:: ·)
noncomputable def Fh(e:Expr):Option {u:Unit // ∀(m:Str)(env:Env),attributeBase e m env (eval e env)=eval e env}:=match e with
 | .Name .. =>some ⟨(),λ_ _=>rfl⟩
 | .Attribute .. =>some ⟨(),λ_ _=>rfl⟩
 | .Subscript .. =>some ⟨(),λ_ _=>rfl⟩
 | .Dict .. =>some ⟨(),λ_ _=>rfl⟩
 | .Call (.Attribute ..) .. =>some ⟨(),λ_ _=>rfl⟩
 | .Call (.Name ..) (_::_) .. =>some ⟨(),λ_ _=>rfl⟩
 |_=>none
def fu(e:Expr):Bool:=(Fh e).isSome
noncomputable def oj(s:Str):Bool:=s== "pop"
noncomputable def Bb:List Comprehension->Option (Expr×Expr×List Expr)
 |[⟨t,it,ifs,k⟩]=>if k=0 then some (t,it,ifs) else none
 |_=>none
theorem oJ{z:List Comprehension}{p:Expr×Expr×List Expr}(h:Bb z=some p):z=[⟨p.1,p.2.1,p.2.2,0⟩]:=by
 rcases z with _|⟨⟨t,it,ifs,k⟩,_|⟨c,l⟩⟩
 .cases h
 .obtain⟨h1,h⟩:=fW h;cases h1;cases h;rfl
 .cases h
def nZ(e:Expr):Option (Str×Str):=(Ei e).bind λq=>(nY q.1.1).bind λz=>(x_ z.1).bind λx=>(x_ z.2).map λy=>(x,y)
theorem gJ{z:Str×Str}(h:nZ e=some z):∃p q k r,e= .Tuple [.Name z.1 p,.Name z.2 q] k r:=by
 obtain⟨⟨⟨l,k,r⟩,rfl⟩,_,h⟩:=bs h;obtain⟨⟨a,b⟩,h0,h⟩:=bs h;obtain⟨x,h1,h⟩:=bs h;obtain⟨y,h2,rfl⟩:=map_some h;obtain⟨p,h1⟩:=fo h1;obtain⟨q,h2⟩:=fo h2;exact⟨p,q,k,r,by show Expr.Tuple l k r= .Tuple [.Name x p,.Name y q] k r;rw[show l=[a,b] from gI h0,show a= .Name x p from h1,show b= .Name y q from h2]⟩
def FB(e:Expr):Option (Option Expr×Option Expr):=(Cn e).bind λq=>q.1.2.2.1.elim (some (q.1.1,q.1.2.1)) λ_=>none
theorem xp{q:Option Expr×Option Expr}(h:FB e=some q):∃p,e= .Slice q.1 q.2 none p:=by
 obtain⟨⟨⟨lo,hi,st,p⟩,rfl⟩,_,h⟩:=bs h;cases st with
 |none=>cases h;exact⟨p,rfl⟩
 |some=>cases h
def xD(sc:Scope)(e:Expr):Option Expr:=(wD e).bind λp=>if p.1= "range" /\bH sc p.1=true then some p.2 else none
theorem nT(h:xD sc e=some a):bH sc "range"=true/\∃p q,e= .Call (.Name "range" p) [a] [] q:=by obtain⟨⟨r,b⟩,h1,h⟩:=bs h;obtain⟨⟨e,c⟩,h⟩:=fW h;cases h;cases e;exact⟨c,lR h1⟩
def yg(e:Expr):Option Int:=(DG e).bind λq=>match q.1.1 with
 | .int i=>some i
 |_=>none
theorem ka{i:Int}(h:yg e=some i):∃k p,e= .Constant (.int i) k p:=by
 obtain⟨⟨⟨c,k,p⟩,rfl⟩,_,h⟩:=bs h;cases c with
 |int j=>cases h;exact⟨_,_,rfl⟩
 |_=>cases h
def om(e:Expr):Bool:=((Eg e).bind λq=>yg q.1.1)==some 1
theorem kf(h:om e=true):∃k p q,e= .UnaryOp .USub (.Constant (.int 1) k p) q:=by
 obtain⟨⟨⟨a,q⟩,rfl⟩,_,h⟩:=bs<|beq_iff_eq.mp h;obtain⟨k,p,c⟩:=ka h;exact⟨k,p,q,by show Expr.UnaryOp .USub a q=_;rw[show a= .Constant (.int 1) k p from c]⟩
def rng2(sc:Scope)(e:Expr):Option Expr:=(yK e).bind λp=>if p.1= "range" /\bH sc p.1=true then(match p.2 with
 |[a,b,c]=>if om b=true/\om c=true then some a else none
 |_=>none) else none
theorem uM(h:rng2 sc e=some a):bH sc "range"=true/\∃p q b c,e= .Call (.Name "range" p) [a,b,c] [] q/\om b=true/\om c=true:=by
 obtain⟨⟨r,as⟩,h1,h⟩:=bs h;obtain⟨⟨e,z⟩,h⟩:=fW h;cases e;dsimp only at h;split at h
 .obtain⟨⟨h2,B⟩,h⟩:=fW h;cases h;obtain⟨p,q,rfl⟩:=kM h1;exact⟨z,p,q,_,_,rfl,h2,B⟩
 .cases h
def Ai(sc:Scope)(e:Expr):Option (Expr×Expr):=(yK e).bind λp=>if p.1= "range" /\bH sc p.1=true then nY p.2 else none
theorem uL{z:Expr×Expr}(h:Ai sc e=some z):bH sc "range"=true/\∃p q,e= .Call (.Name "range" p) [z.1,z.2] [] q:=by obtain⟨⟨r,as⟩,h1,h⟩:=bs h;obtain⟨⟨e,c⟩,h⟩:=fW h;cases e;cases gI h;exact⟨c,kM h1⟩
noncomputable def vt(f:Str)(sc:Scope)(e:Expr):Option Expr:=(wD e).bind λp=>if p.1=f/\bH sc p.1=true then some p.2 else none
theorem j_{f:Str}(h:vt f sc e=some a):bH sc f=true/\∃p q,e= .Call (.Name f p) [a] [] q:=by obtain⟨⟨r,b⟩,h1,h⟩:=bs h;obtain⟨⟨e,c⟩,h⟩:=fW h;cases h;cases e;exact⟨c,lR h1⟩
def BM(t:Expr):Option (Bool×List Str):=(x_ t).elim ((nZ t).map λz=>(true,[z.1,z.2])) λx=>some (false,[x])
def jX(sc:Scope)(it:Expr):Sk×Expr:=(xD sc it).elim ((vt "enumerate" sc it).elim (.seq,it) λa=>(.en,a)) λa=>(.rng,a)
def vz(m:Str)(e:Expr):Option Expr:=(BA e).bind λq=>(DJ q.1.1).bind λr=>(vq q.1.2.1).bind λ_=>(vq q.1.2.2.1).bind λ_=>if r.1.2.1=m/\(r.1.2.2.endLine==q.1.2.2.2.line)=true/\fu r.1.1=true then some r.1.1 else none
theorem oa{m:Str}(h:vz m e=some o):∃ap cp,e= .Call (.Attribute o m ap) [] [] cp/\(ap.endLine==cp.line)=true/\fu o=true:=by
 obtain⟨⟨⟨f,as,ks,cp⟩,rfl⟩,_,h⟩:=bs h;obtain⟨⟨⟨o',m',ap⟩,c⟩,_,h⟩:=bs h;obtain⟨⟨_,h1⟩,_,h⟩:=bs h;obtain⟨⟨_,h2⟩,_,h⟩:=bs h;obtain⟨⟨F,B,z⟩,h⟩:=fW h;cases h;exact⟨ap,cp,by show Expr.Call f as ks cp= .Call (.Attribute o' m ap) [] [] cp;rw[show f= .Attribute o' m' ap from c,show as=[] from h1,show ks=[] from h2,show m'=m from F],B,z⟩
def FT(sc:Scope)(f:Str)(args:List Expr):Option Expr:=if f= "sorted" then(one args).bind λc=>vt "set" sc c else none
noncomputable def xg:List (Str×Ty):=[("tuple",.tuple),("int",.int),("bool",.bool)]
def FC(e:Expr):Option Unit:=(Cn e).bind λq=>q.1.1.elim (q.1.2.1.elim (q.1.2.2.1.bind λx=>if om x=true then some () else none) λ_=>none) λ_=>none
theorem xr{u:Unit}(h:FC e=some u):∃k p q r,e= .Slice none none (some<|.UnaryOp .USub (.Constant (.int 1) k p) q) r:=by
 obtain⟨⟨⟨a,b,c,r⟩,rfl⟩,_,h⟩:=bs h;rcases n4 h with⟨_,_,h⟩|⟨ha,h⟩
 .cases h
 rcases n4 h with⟨_,_,h⟩|⟨hb,h⟩
 .cases h
 obtain⟨x,z,h⟩:=bs h;obtain⟨k,p,q,rfl⟩:=kf (fW h).1;exact⟨k,p,q,r,by show Expr.Slice a b c r=_;rw[show a=none from ha,show b=none from hb,show c=some (.UnaryOp .USub (.Constant (.int 1) k p) q) from z]⟩
def FG(e:Expr):Option (Expr×(Str×Str)×Expr×Scope):=(ET e).bind λq=>(Bb q.1.2.1).bind λz=>(vq z.2.2).bind λ_=>(nZ z.1).bind λw=>(vz "items" z.2.1).map λo=>(o,w,q.1.1,q.1.2.2.1)
theorem yl{elt:Expr}{z:Str×Str}{scope:Scope}(h:FG e=some (o,z,elt,scope)):∃t it p,e= .ListComp elt [⟨t,it,[],0⟩] scope p/\nZ t=some z/\vz "items" it=some o:=by
 obtain⟨⟨⟨B,c,sc,p⟩,rfl⟩,_,h⟩:=bs h;obtain⟨⟨t,it,ifs⟩,h1,h⟩:=bs h;obtain⟨⟨_,F⟩,_,h⟩:=bs h;obtain⟨J,h2,h⟩:=bs h;obtain⟨o',I,H⟩:=map_some h;cases H;exact⟨t,it,p,by show Expr.ListComp B c sc p= .ListComp B [⟨t,it,[],0⟩] sc p;rw[show c=[⟨t,it,ifs,0⟩] from oJ h1,show ifs=[] from F],h2,I⟩
def EB(f:Str)(args:List Expr):Option (Expr×(Str×Str)×Expr×Scope):=if f= "sum" then(one args).bind FG else none
def isZero(e:Expr):Bool:=yg e==some 0
theorem pN(h:isZero e=true):∃k p,e= .Constant (.int 0) k p:=ka<|beq_iff_eq.mp h
mutual
noncomputable def cE(T:Tab)(n:Nat)(sc:Scope)(N:List Str)(e:Expr):Option Ex:=match n with
 |0=>none
 |n+1=>match e with
  | .Constant k _ _=>(match k with
   | .int i=>some (.c<|.int i)
   | .str s=>some (.c<|.str s)
   | .bool b=>some (.c<|.bl b)
   | .none=>some (.c .non)
   |_=>none)
  | .Name x _=>(sc.names.lookup x).bind λk=>match k with
   | .local=>(f6 N x).map .v
   | .cell=>(f6 N x).map .v
   | .free=>(f6 N x).map .v
   |_=>none
  | .Tuple es _ _=>if es.length<=1000 then(tH T n sc N es).map .tup else none
  | .List es _=>if es.length<=1000 then(tH T n sc N es).map .lst else none
  | .Dict ks vs _=>(match ks with
   |[]=>(match vs with
    |[]=>some .emp
    |_=>none)
   |k::ks=>(rK<|k::ks).bind λks'=>(tH T n sc N vs).bind λvs'=>if ks'.length=vs.length/\ks'.length<=15/\ks'.Nodup then some (.dict ks' vs') else none)
  | .IfExp c a b _=>(cE T n sc N c).bind λc'=>(cE T n sc N a).bind λa'=>(cE T n sc N b).map λb'=>.ite c' a' b'
  | .BinOp a op b _=>(cE T n sc N a).bind λa'=>(DI op).bind λo=>(cE T n sc N b).map λb'=>.bin o a' b'
  | .UnaryOp op a _=>(match op with
   | .Not=>(cE T n sc N a).map .not
   | .USub=>(yg a).map λi=>.c (.int<|-i)
   |_=>none)
  | .BoolOp op es p=>(match es with
   |[]=>none
   |a::r=>match r with
    |[]=>cE T n sc N a
    |b::r=>(cE T n sc N a).bind λa'=>(cE T n sc N<|.BoolOp op (b::r) p).map λb'=>match op with
     | .And=>.and a' b'
     | .Or=>.or a' b')
  | .Compare a ops bs _=>(one ops).bind λop=>(one bs).bind λb=>(cE T n sc N a).bind λa'=>(cE T n sc N b).map λb'=>.cmp op a' b'
  | .Subscript a b _=>(FB b).elim ((FC b).elim (if fc b=true then(cE T n sc N a).bind λa'=>(cE T n sc N b).map λb'=>.ix a' b' else none) λ_=>(cE T n sc N a).map .rv)
   λq=>match q.1 with
    |none=>q.2.bind λh=>(cE T n sc N a).bind λa'=>(cE T n sc N h).map λh'=>.sl a' h' h' false true
    |some l=>(cE T n sc N a).bind λa'=>(cE T n sc N l).bind λl'=>match q.2 with
     |none=>some<|.sl a' l' l' true false
     |some h=>(cE T n sc N h).map λh'=>.sl a' l' h' true true
  | .Call f args kws cp=>(match kws with
   |[]=>(match f with
   | .Name f _=>if bH sc f=true then(EB f args).elim ((FT sc f args).elim (match args with
     |[]=>none
     |a::as=>(f6 T.fns f).elim ((T.mks.lookup f).elim ((BB.lookup f).elim (if f= "isinstance" then(one as).bind λt'=>(x_ t').bind λt=>if bH sc t=true then(xg.lookup t).elim ((T.isks.lookup t).bind λtb=>(cE T n sc N a).map λa'=>.isk a' tb) λtp=>(cE T n sc N a).map λa'=>.isi a' tp else none else none)
       λb=>if T.calm=true then(tH T n sc N<|a::as).map (.bt b) else none)
       λj=>(tH T n sc N<|a::as).map<|.new f j)
       λi=>(tH T n sc N<|a::as).map<|.fn i)
     λo=>if T.calm=true then(cE T n sc N o).map .sset else none)
     λq=>if dw sc q.2.2.2 N [q.2.1.1,q.2.1.2]=true/\T.calm=true then(cE T n sc N q.1).bind λo'=>(cE T n (gZ sc q.2.2.2) ([q.2.1.1,q.2.1.2]++pH q.2.2.2 N) q.2.2.1).map λe'=>.bt .sum [.compI o' e'] else none
    else none
   | .Attribute o m ap=>if(fu o&&(ap.endLine==cp.line)&&decide (args.length<29))=true then(cE T n sc N o).bind λo'=>
     if oj m=true then(match args with
      |[]=>some (.pop o' false)
      |_=>(one args).bind λa=>if isZero a=true then some (.pop o' true) else none)
     else if m= "get" then(one args).elim ((nY args).bind λz=>(cE T n sc N z.1).bind λb'=>(cE T n sc N z.2).map λc'=>.dget o' b' c') λb=>(cE T n sc N b).map λb'=>.dget1 o' b'
     else(tH T n sc N args).map λas'=>.meth o' m (T.ims m) as' else none
   |_=>none)
   |_=>none)
  | .ListComp elt gens scope _=>(Bb gens).bind λq=>(Ai sc q.2.1).elim ((BM q.1).bind λp=>if dw sc scope N p.2=true/\T.calm=true/\(p.1=false->(jX sc q.2.1).1.isEn=false) then
    (cE T n sc N (jX sc q.2.1).2).bind λs'=>(cE T n (gZ sc scope) (p.2++pH scope N) elt).bind λe'=>match q.2.2 with
     |[]=>some (.comp (jX sc q.2.1).1 p.1 s' (.c .non) false e')
     |c::r=>(match r with
      |[]=>(cE T n (gZ sc scope) (p.2++pH scope N) c).map λc'=>.comp (jX sc q.2.1).1 p.1 s' c' true e'
      |_=>none)
    else none)
    λz=>(x_ q.1).bind λx=>if dw sc scope N [x]=true/\T.calm=true then(one q.2.2).bind λc=>(cE T n sc N z.1).bind λa'=>(cE T n sc N z.2).bind λb'=>(cE T n (gZ sc scope) ([x]++pH scope N) elt).bind λe'=>(cE T n (gZ sc scope) ([x]++pH scope N) c).map λc'=>.compR a' b' c' e' else none
  | .Attribute o f _=>if fu o=true then(cE T n sc N o).map (λo'=>.fld o' f []<|T.ics f) else none
  |_=>none
noncomputable def tH(T:Tab)(n:Nat)(sc:Scope)(N:List Str)(es:List Expr):Option (List Ex):=match n with
 |0=>none
 |n+1=>match es with
  |[]=>some []
  |e::r=>(cE T n sc N e).bind λe'=>(tH T n sc N r).map λr'=>e'::r'
end
structure LRel(K:aF)(H:Hp)(G:Nat->Addr)(m:Nat)(loc:Loc)(W:L2.St):Prop where
 len:loc.length=W.length
 at_:∀(i:Nat)(d:D),loc[i]? =some (some d)->∃v:V,W[i]? =some (some v)/\VRel K H G m d v
theorem LRel.ext{K:aF}{H':Hp}{G':Nat->Addr}{m':Nat}{loc:Loc}{W:L2.St}(L:LRel K H G m loc W)(E:Ext H H' G G' m m'):LRel K H' G' m' loc W:=
 ⟨L.len,λi d e=>let⟨v,h1,h2⟩:=L.at_ i d e;⟨v,h1,h2.ext E⟩⟩
theorem LRel.cons{K:aF}{loc:Loc}{W:L2.St}(L:LRel K H G m loc W)(r:VRel K H G m d v):LRel K H G m (some d::loc) (some v::W):=
 ⟨by simp[L.len],λi e h=>by
  cases i with
  |zero=>
   have:d=e:=by simpa using h
   subst this;exact⟨v,rfl,r⟩
  |succ i=>simpa using L.at_ i e (by simpa using h)⟩
theorem LRel.set{K:aF}{loc:Loc}{W:L2.St}(L:LRel K H G m loc W)(j:Nat)(r:VRel K H G m d v):LRel K H G m (loc.set j<|some d) (W.set j<|some v):=
 ⟨by simp[L.len],λi e h=>by
  by_cases hj:j=i
  .subst hj
   have c:j<loc.length:=by have:=(aq h).1;simpa using this
   rw[aK c] at h;cases h;exact⟨v,by rw[aK (by rw[<-L.len];exact c)],r⟩
  .rw[aD hj] at h;obtain⟨w,h1,h2⟩:=L.at_ i e h;exact⟨w,by rw[aD hj];exact h1,h2⟩⟩
def tE(K:aF)(m:Loc->M D):TE:=λW H Q=>∃G st loc,Sim K H G st/\LRel K H G st.length loc W/\cv K H G st (m loc st) Q
def iO(K:aF)(H:Hp)(G:Nat->Addr)(st:aU)(r:R D)(Q:Bool->Hp->Prop):Prop:=match r with
 | .ok (.bl k) st'=>∀H' G',Ext H H' G G' st.length st'.length->Sim K H' G' st'->Q k H'
 |_=>False
def tT(K:aF)(m:Loc->M D):TT:=λW H Q=>∃G st loc,Sim K H G st/\LRel K H G st.length loc W/\iO K H G st (m loc st) Q
def wL(K:aF)(H:Hp)(G:Nat->Addr)(st:aU)(r:R (List D))(Q:List V->Hp->Prop):Prop:=match r with
 | .ok ds st'=>∀H' G' vs,Ext H H' G G' st.length st'.length->Sim K H' G' st'->VRels K H' G' st'.length ds vs->Q vs H'
 | .bad=>False
def tA(K:aF)(m:Loc->M (List D)):TA:=λW H Q=>∃G st loc,Sim K H G st/\LRel K H G st.length loc W/\wL K H G st (m loc st) Q
section
variable{K:aF}{H:Hp}{G:Nat->Addr}{st:aU}{W:L2.St}{loc:Loc}
theorem bj{m:Loc->M D}(S:Sim K H G st)(L:LRel K H G st.length loc W)(e:m loc st=.ok d st1)(k:∀H1 G1 v,Ext H H1 G G1 st.length st1.length->Sim K H1 G1 st1->VRel K H1 G1 st1.length d v->Q v H1):tE K m W H Q:=
 ⟨G,st,loc,S,L,by rw[e];exact k⟩
theorem jk{m:Loc->M D}{Q:Bool->Hp->Prop}{b:Bool}(S:Sim K H G st)(L:LRel K H G st.length loc W)(e:m loc st=.ok (.bl b) st1)(k:∀H1 G1,Ext H H1 G G1 st.length st1.length->Sim K H1 G1 st1->Q b H1):tT K m W H Q:=
 ⟨G,st,loc,S,L,by rw[e];exact k⟩
theorem jT{m:Loc->M (List D)}{Q:List V->Hp->Prop}{ds:List D}(S:Sim K H G st)(L:LRel K H G st.length loc W)(e:m loc st=.ok ds st1)(k:∀H1 G1 vs,Ext H H1 G G1 st.length st1.length->Sim K H1 G1 st1->VRels K H1 G1 st1.length ds vs->Q vs H1):tA K m W H Q:=
 ⟨G,st,loc,S,L,by rw[e];exact k⟩
theorem aT{m:M α}{f:α->M D}(P:cv K H G st (bg m f st0) Q):∃a st1,m st0=.ok a st1/\cv K H G st (f a st1) Q:=by
 unfold bg at P;cases e:m st0 with
 |ok a st1=>rw[e] at P;exact⟨a,st1,rfl,P⟩
 |bad=>rw[e] at P;exact P.elim
theorem dE{m:M α}{f:α->M D}{Q:Bool->Hp->Prop}(P:iO K H G st (bg m f st0) Q):∃a st1,m st0=.ok a st1/\iO K H G st (f a st1) Q:=by
 unfold bg at P;cases e:m st0 with
 |ok a st1=>rw[e] at P;exact⟨a,st1,rfl,P⟩
 |bad=>rw[e] at P;exact P.elim
theorem iL{m:M α}{f:α->M (List D)}{Q:List V->Hp->Prop}(P:wL K H G st (bg m f st0) Q):∃a st1,m st0=.ok a st1/\wL K H G st (f a st1) Q:=by
 unfold bg at P;cases e:m st0 with
 |ok a st1=>rw[e] at P;exact⟨a,st1,rfl,P⟩
 |bad=>rw[e] at P;exact P.elim
theorem bR{o:Option α}{a:α}(e:fe o st0=.ok a st1):o=some a/\st1=st0:=by
 unfold fe at e;cases o with
 |none=>cases e
 |some b=>cases e;exact⟨rfl,rfl⟩
theorem cg{b:Bool}(e:iK x=some b):x=.bl b:=by cases x<;>cases e;rfl
theorem vG{b:Int}(e:k5 x=some b):x=.int b:=by cases x<;>cases e;rfl
theorem iO.inv{r:R D}{Q:Bool->Hp->Prop}(P:iO K H G st r Q):∃b st1,r=.ok (.bl b) st1/\∀H' G',Ext H H' G G' st.length st1.length->Sim K H' G' st1->Q b H':=by
 unfold iO at P;split at P
 .exact⟨_,_,rfl,P⟩
 .exact P.elim
theorem iO.mono{r:R D}{Q:Bool->Hp->Prop}{H1:Hp}(P:iO K H G st r Q)(E:Ext H H1 G G1 st.length st1.length):iO K H1 G1 st1 r Q:=by obtain⟨b,c,rfl,k⟩:=P.inv;exact λH' G' B z=>k H' G' (E.trans B) z
end
theorem _root_.L2.PE.imp{X:Cx}{e:Expr}{t t':TE}(h:PE X e t)(k:∀W H Q,t' W H Q->t W H Q):PE X e t':=λpins s W H Q I q=>h pins s W H Q I<|k W H Q q
theorem _root_.L2.PT.imp{X:Cx}{e:Expr}{t t':TT}(h:PT X e t)(k:∀W H Q,t' W H Q->t W H Q):PT X e t':=λpins s W H Q I q=>h pins s W H Q I<|k W H Q q
theorem _root_.L2.PA.imp{X:Cx}{es:List Expr}{t t':TA}(h:PA X es t)(k:∀W H Q,t' W H Q->t W H Q):PA X es t':=λpos pins s W H Q I q=>h pos pins s W H Q I<|k W H Q q
def gT(K:aF)(E:XK)(H:Hp)(G:Nat->Addr)(st:aU)(r:R Rs)(Q:VK):Prop:=match r with
 | .ok (.v d) st'=>∀H' G' v,Ext H H' G G' st.length st'.length->Sim K H' G' st'->VRel K H' G' st'.length d v->Q v H'
 | .ok (.x n) st'=>∀H' G',Ext H H' G G' st.length st'.length->Sim K H' G' st'->E (.ref<|G' n) none H'
 | .bad=>False
theorem gT.mono{K:aF}{E:XK}{r:R Rs}{H1:Hp}(P:gT K E H G st r Q)(B:Ext H H1 G G1 st.length st1.length):gT K E H1 G1 st1 r Q:=by
 cases r with
 |ok f st2=>
  cases f with
  |v d=>exact λH' G' v z c F=>P H' G' v (B.trans z) c F
  |x n=>exact λH' G' z c=>P H' G' (B.trans z) c
 |bad=>exact P
theorem gT.val{K:aF}{m:M Rs}{E:XK}(P:cv K H G st (bg m (λr=>fe r.val?) st1) Q):gT K E H G st (m st1) Q:=by
 obtain⟨r,c,e,P⟩:=aT P;rw[e];cases r with
 |v d=>exact P
 |x n=>exact P.elim
def Cm(K:aF)(n:Nat)(f:List D->M Rs):Sp:=λvs H Q E=>vs.length=n/\∃G st ds,Sim K H G st/\VRels K H G st.length ds vs/\gT K E H G st (f ds st) Q
structure Ctx(T:Tab)(g:eX)(X:Cx)(sc:Scope)(N:List Str):Prop where
 sc:X.env.scope=sc
 n:X.N=N
 nd:N.Nodup
 nm:∀x∈N,(x==("__debug__":Str))=false/\(x==("__classdict__":Str))=false
 calm:T.calm=true->X.calm=true
 un:X.A.units+100<cLine
 fns:∀i f,T.fns[i]? =some f->(f==("__debug__":Str))=false/\∃a fd ps k,X.mg f=some (.ref a)/\PySem.W.keepIn X.K (.ref a)=true/\Binds X.K fd ps []/\Room k X.A/\(∀ds st,ds.length≠ps.length->g i ds st=R.bad)/\FnOk X.prog X.w X.K X.mg X.base (o0 X.prog X.w) k a fd ps (Cm X.K ps.length<|g i)
 isks:∀t tb,(t,tb)∈T.isks->(t==("__debug__":Str))=false/\∃C0,X.mg t=some (.ref C0)/\∀c b,(c,b)∈tb->∃C,PySem.W.nsIn X.K mainGlobals c=some (some<|.ref C)/\Cls X.K C/\PySem.W.findIn X.K (.ref C) "__class__"=some (some<|.builtin "object.__class__")/\PySem.W.specialIn X.K (.builtin "object.__class__") "__get__"=some (some<|.builtin "getset_descriptor.__get__")/\PySem.W.takesIn X.K (.builtin "object.__class__")=some true/\PySem.W.mroIn X.K C (.type "object")=some true/\PySem.W.kitOne X.K (.ref C) (.ref C0)=some b
 blt:∀x∈tm,X.mg x=none
 icl:∀c∈T.icl,∃C,PySem.W.nsIn X.K mainGlobals c.x=some (some<|.ref C)/\Cls X.K C/\(∀f∈c.flds,fJ X.K C f)/\(∀m j,(m,j)∈c.mts->∃a fd ps k,Meth X.K C m a/\Binds X.K fd ps []/\Room k X.A/\(∀ds st,ds.length≠ps.length->g j ds st=R.bad)/\FnOk X.prog X.w X.K X.mg X.base (o0 X.prog X.w) k a fd ps (Cm X.K ps.length<|g j))
 mks:∀x j,(x,j)∈T.mks->(x==("__debug__":Str))=false/\∃C a fd ps k,PySem.W.nsIn X.K mainGlobals x=some (some<|.ref C)/\X.mg x=some (.ref C)/\Mk X.K C a/\Binds X.K fd ps []/\Room (k+1) X.A/\(∀ds st,ds.length≠ps.length->g j ds st=R.bad)/\FnOk X.prog X.w X.K X.mg X.base (o0 X.prog X.w) k a fd ps (Cm X.K ps.length<|g j)
end Ev
namespace L2
open PySem PySem.Spec PyProof.Rows
section
variable{X:Cx}{tg:Expr}
noncomputable def Fy(lo:Int)(n:Nat):It:=⟨λi _=>i<n,λi H x H'=>H'=H/\x=.int (lo - i),λi _=>n<=i⟩
theorem rY{P:Program}{w:World}{K:aF}{tg:Expr}(it:Addr)(lo:Int)(n:Nat):Turn P w K tg (Fy lo n) [it] it (λi h=>IsRangeIter h it (lo+(i:Nat)*(-1)) ((n:Int) - (i:Nat))<|-1) where
 mem:=by simp
 obj:=λi h st b c=>by
  have e:b=it:=by simpa using c
  subst e;exact⟨_,st,λv z=>nomatch (show Data.fields _=Data.cell v from z)⟩
 keep:=λi h h' st k=>k it (by simp) _ st
 item:=by
  intro X U hw Y J i pins s W H E I B st F;subst U hw Y;obtain⟨f0,f1,f2,f3,f4,Z⟩:=B it (by simp)
  refine(Walks.range (prog:=X.prog) (w:=X.w) (I.ok.hd J) it lo (-1) n).item i s _ _ F st λv h' tk hv st' kk=>?_;obtain⟨t,rfl⟩:=hv;have I1:Inv X pins W H {s with heap:=h',toks:=tk}:=I.turned (λb o c e=>kk b o (by simpa using c) e) f0 f1 f3 f4 Z
  refine⟨_,rfl,oH (s:={s with heap:=h',toks:=tk}) (n:= "range_iterator") st' rfl rfl (by decide) ⟨.int<|lo - i,H,I1,⟨t,?_⟩,⟨rfl,rfl⟩,st',λb c=>(B b c).1⟩⟩
  rw[show lo - (i:Int)=lo+(i:Int)*(-1) by omega]
 done:=by
  intro X U hw Y J i pins s W H E I B st F;subst U hw Y;obtain⟨f0,f1,f2,f3,f4,Z⟩:=B it (by simp)
  exact wpAny_pyNext_range_end (I.ok.hd J) st (by have:n<=i:=F;omega) λh' eb=>⟨rfl,I.turned (t':=s.toks) (λb o c e=>eb b o c e) f0 f1 f3 f4 Z⟩
 self:=λ_ _ _ _ _ st h=>wpAny_pyIter_rangeiter st h
def Dh(ta:TA):TI:=λW H R=>ta W H λvs H1=>∃i:Int,vs=[.int i,.int<|-1,.int<|-1]/\ -1000000<=i/\i<=1000000/\R (Fy i (i+1).toNat) H1
theorem lq(a:Int):Builtin.Range.rangeSize a (-1) (-1)=((a+1).toNat:Nat):=by
 unfold Builtin.Range.rangeSize;rw[if_neg (by decide)]
 split<;>simp<;>omega
theorem small_down{a:Int}(h1: -1000000<=a)(h2:a<=1000000):Builtin.Range.small a (-1) (-1)=true:=by
 unfold Builtin.Range.small;rw[lq];have z:(((a+1).toNat:Nat):Int)<=1000001:=by omega
 have c:0<=(((a+1).toNat:Nat):Int):=by omega
 generalize (((a+1).toNat:Nat):Int)=b at*;simp only[Builtin.Range.rangeFitsLong,and_eq_true,Bool.or_eq_true,decide_eq_true_eq,beq_iff_eq];exact⟨by omega,.inr (by decide)⟩
theorem xO{a b c:Expr}{ta:TA}{p pos:Pos}(Y:Gl X "range")(U:X.mg "range"=none)(ha:PA X [a,b,c] ta)(hs:starEach [a,b,c] X.env=(false,eval a X.env)::starEach [b,c] X.env)(F:∀pos,(backTo pos<|starEach [b,c] X.env).any (·.1)=false):
  PI X tg (.Call (.Name "range" p) [a,b,c] [] pos) (Dh ta):=by
 intro pins s W H R I h;refine Call_<|ft I Y U boot_range<|a7 (bZ (ha pos pins s W H _ I h) λus B ⟨vs,H1,I1,r1,q1⟩=>?_) hs<|F _;obtain⟨i,e,q1,q2,q⟩:=q1;subst e;cases r1 with
 |cons r rr=>
  cases rr with
  |cons r' rr=>
   cases rr with
   |cons r'' rr=>
    cases rr;obtain⟨t,rfl⟩:=r;obtain⟨t',rfl⟩:=r';obtain⟨z,rfl⟩:=r'';refine call_range_3 (by decide) ?_<|.inl<|PyProof.noPylong_small (by omega)
    have J:Inv X pins W H1 {B with heap:=B.heap.push {cls:= .type "range",data:= .fields #[.int i t,.int (-1) t',.int (-1) z]},toks:=B.toks}:=I1.kept λb o e=>ah _ e;refine wpAny_pyIter_range (IsRange.new ..) (small_down q1 q2) ?_;refine⟨_,[(B.heap.push {cls:= .type "range",data:= .fields #[.int i t,.int (-1) t',.int (-1) z]}).objs.size],_,_,H1,rfl,J.kept (t':=B.toks) λb o e=>ah _ e,rY _ i (i+1).toNat,?_,λb Z=>?_,q⟩
    .show IsRangeIter _ _ (i+((0:Nat):Int)*(-1)) ((((i+1).toNat:Nat):Int) - ((0:Nat):Int))<|-1;rw[show i+((0:Nat):Int)*(-1)=i by simp,show(((i+1).toNat:Nat):Int) - ((0:Nat):Int)=Builtin.Range.rangeSize i (-1) (-1) by rw[lq];simp]
     exact aC _ rfl
    .have e:b=(B.heap.push {cls:= .type "range",data:= .fields #[.int i t,.int (-1) t',.int (-1) z]}).objs.size:=by simpa using Z
     subst e;exact J.fpOk (aa _)<|J.hok.fresh<|aa _
end
end L2
namespace Ev
open PySem PySem.Spec PyProof.Rows L2
variable{m0:Nat}{G0:Nat->Addr}
def Df(K:aF)(tl:TE):TI:=λW H R=>tl W H λx H1=>∃a,x=.ref a/\(((∃xs,dO K H1 a xs)/\R (Ee K a) H1)∨((∃xs,fP K H1 a xs)/\R (Fs K a) H1))
theorem vc{X:Cx}{tg l:Expr}{tl:TE}(Z:PE X l tl):PI X tg l (Df X.K tl):=by
 intro pins s W H R I h;refine bZ (Z pins s W H _ I h) λv c Y=>?_;obtain⟨x,H1,z,J,q1⟩:=Y;obtain⟨a,rfl,⟨⟨xs,B⟩,q⟩|⟨⟨xs,B⟩,q⟩⟩:=q1
 .cases J;obtain⟨its,rv,p,U⟩:=z.list B;refine wpAny_pyIter_list p.isList ?_;refine⟨c.heap.objs.size,[c.heap.objs.size],_,_,H1,rfl,z.kept (t':=c.toks) λb o e=>ah _ e,rW a _,⟨_,aC _ rfl,rfl,rfl⟩,λb F=>?_,q⟩;have e:b=c.heap.objs.size:=by simpa using F
  subst e;exact z.fpOk (aa _)<|z.hok.fresh<|aa _
 .cases J;obtain⟨its,rv,p,U⟩:=z.tuple B;refine wpAny_pyIter_tuple (show c.heap.IsTuple a its.toArray from p) ?_;refine⟨c.heap.objs.size,[c.heap.objs.size],_,_,H1,rfl,z.kept (t':=c.toks) λb o e=>ah _ e,o_ a _,⟨_,aC _ rfl,rfl,rfl⟩,λb F=>?_,q⟩;have e:b=c.heap.objs.size:=by simpa using F
  subst e;exact z.fpOk (aa _)<|z.hok.fresh<|aa _
def db(K:aF)(J:It)(s:Src)(H0:Hp)(G0:Nat->Addr)(m0:Nat):Prop:=∀H G st i,Ext H0 H G0 G m0 st.length->Sim K H G st->
 (nxt s i st=some none->J.stop i H)/\∀x,nxt s i st=some (some x)->J.go i H/\∀v H',J.yld i H v H'->H'=H/\VRel K H G st.length x v
theorem db.tup{K:aF}{a:Addr}{c:Hp}{xs:List D}{vs:List V}(h:fP K c a vs)(r:VRels K c G0 m0 xs vs):db K (Fs K a) (.its xs) c G0 m0:=λH G st i E S=>by
 have l:=r.length;have h':=fP.ext E.toExt0 h;refine⟨λe=>?_,λx e=>?_⟩
 .have e:xs[i]? =none:=ak e;exact⟨vs,h',by have:=List.getElem?_eq_none_iff.mp e;omega⟩
 .have e:xs[i]? =some x:=ak e;obtain⟨v,z,rv⟩:=(r.ext E).get e;refine⟨⟨vs,v,h',z⟩,λw H' y=>⟨y.1,?_⟩⟩;have:=y.2 vs h';rw[z] at this;cases this;exact rv
theorem db.fl{K:aF}{a:Addr}{c:Hp}{xs:List D}{vs:List V}(h:tz K c a vs)(r:VRels K c G0 m0 xs vs):db K (Ee K a) (.its xs) c G0 m0:=λH G st i E S=>by
 have l:=r.length;have h':=(tz.ext E.toExt0 h).sql;refine⟨λe=>?_,λx e=>?_⟩
 .have e:xs[i]? =none:=ak e;exact⟨vs,h',by have:=List.getElem?_eq_none_iff.mp e;omega⟩
 .have e:xs[i]? =some x:=ak e;obtain⟨v,z,rv⟩:=(r.ext E).get e;refine⟨⟨vs,v,h',z⟩,λw H' y=>⟨y.1,?_⟩⟩;have:=y.2 vs h';rw[z] at this;cases this;exact rv
theorem db.ref{K:aF}{n:Nat}{F:Hp}(B:n<m0):db K (Ee K<|G0 n) (.at n) F G0 m0:=λH G st i E S=>by
 simp only[nxt];cases q:st[n]? with
 |none=>exact⟨λe=>(by cases e),λx e=>(by cases e)⟩
 |some o=>
  have c:=S.ob n o q;rw[E.ad n B] at c;cases o with
  |lst xs=>
   obtain⟨vs,h1,r⟩:=c;have l:=r.length;have h':dO K H (G0 n) vs:=dO.of h1;refine⟨λe=>?_,λx e=>?_⟩
   .have e:xs[i]? =none:=ak e;exact⟨vs,h',by have:=List.getElem?_eq_none_iff.mp e;omega⟩
   .have e:xs[i]? =some x:=ak e;obtain⟨v,z,rv⟩:=r.get e;refine⟨⟨vs,v,h',z⟩,λw H' y=>⟨y.1,?_⟩⟩;have:=y.2 vs h';rw[z] at this;cases this;exact rv
  |_=>exact⟨λe=>(by cases e),λx e=>(by cases e)⟩
theorem db.rng2{K:aF}{z:Hp}{k:Nat}{lo:Int}:db K (BU lo k) (.its<|c8 lo k) z G0 m0:=λH G st i E S=>by
 refine⟨λe=>?_,λx e=>?_⟩
 .have e:(c8 lo k)[i]? =none:=ak e;show k<=i;have:=List.getElem?_eq_none_iff.mp e;simpa[c8] using this
 .have e:(c8 lo k)[i]? =some x:=ak e
  have hi:i<k:=by have:=(aq e).1;simpa[c8] using this
  have c:x=.int (lo+(i:Int)):=by
   have:(c8 lo k)[i]? =some (.int<|lo+(i:Int)):=by simp[c8,hi]
   rw[this] at e;exact(ak e).symm
  subst c;refine⟨hi,λv H' y=>⟨y.1,?_⟩⟩;have:v=.int (lo+(i:Int)):=y.2;rw[this];exact .int _
theorem db.rng{K:aF}{z:Hp}{k:Nat}:db K (BU 0 k) (.its<|bx k) z G0 m0:=λH G st i E S=>by
 refine⟨λe=>?_,λx e=>?_⟩
 .have e:(bx k)[i]? =none:=ak e;show k<=i;have:=List.getElem?_eq_none_iff.mp e;simpa[bx] using this
 .have e:(bx k)[i]? =some x:=ak e
  have hi:i<k:=by have:=(aq e).1;simpa[bx] using this
  have c:x=.int (i:Int):=by
   have:(bx k)[i]? =some (.int (i:Int)):=by simp[bx,hi]
   rw[this] at e;exact(ak e).symm
  subst c;refine⟨hi,λv H' y=>⟨y.1,?_⟩⟩;have:v=.int (0+(i:Int)):=y.2;rw[this,Int.zero_add];exact .int _
theorem db.down{K:aF}{z:Hp}{k:Nat}{lo:Int}:db K (Fy lo k) (.its<|eJ lo k) z G0 m0:=λH G st i E S=>by
 refine⟨λe=>?_,λx e=>?_⟩
 .have e:(eJ lo k)[i]? =none:=ak e;show k<=i;have:=List.getElem?_eq_none_iff.mp e;simpa[eJ] using this
 .have e:(eJ lo k)[i]? =some x:=ak e
  have hi:i<k:=by have:=(aq e).1;simpa[eJ] using this
  have c:x=.int (lo - (i:Int)):=by
   have:(eJ lo k)[i]? =some (.int<|lo - (i:Int)):=by simp[eJ,hi]
   rw[this] at e;exact(ak e).symm
  subst c;refine⟨hi,λv H' y=>⟨y.1,?_⟩⟩;have:v=.int (lo - (i:Int)):=y.2;rw[this];exact .int _
end Ev
namespace PySem
open Sem (wp)
open AutoSeq1 (wpAny_loadPart')
variable{a t:Addr}{h h':Heap}{prog:Program}
section
variable{prog:Program}{w:World}{A:Around}{E:Value->Shared->Prop}{s:Shared}{it t:Addr}{i:Nat}{items:Array Value}{Q:Value->Shared->Prop}
theorem ua{x:Value}(c:s.heap.IsTupleIter it t i)(ht:s.heap.IsTuple t items)(H:items[i]? =some x)(J:∀h',h'.IsTupleIter it t (i+1)->Heap.SameBut it s.heap h'->Q x {s with heap:=h'}):
  wpAny (model prog w) A (Builtin.SmallTypes.nextOf<|.ref it) Q E s:=by
 obtain⟨o,ho,I,hd⟩:=id c;obtain⟨U,z,_,Y,B⟩:=ht;unfold Builtin.SmallTypes.nextOf;refine ae<|wpAny_callSpecial?_slot (name:=Str.ofString "__next__") c.typeIs F.slot_tuple_iterator_next<|wpAny_call_entry F.slot_tuple_iterator_next c.typeIs F.entry_tuple_iterator_next ?_<|F.args_tuple_iterator_next_1 _;refine ae (m:=field (.ref it) 0)<|bT ho hd (x:= .ref t) rfl ?_;refine ae (m:=field (.ref it) 1)<|bT ho hd (x:= .int i 0) rfl ?_;refine ae (m:=seqItems?<|.ref t)<|wpAny_seqItems z B ?_;simp only[toNat_natCast,H];refine ae<|wpAny_setField ho hd (by simp)<|ai ⟨x,rfl,ai<|J _ ⟨_,Heap.get?_update_self _ ho<|Obj.isFreed_of_fields<|Obj.data_mapFields hd _,(Obj.cls_mapFields ..).trans I,?_⟩<|Heap.SameBut.update ..⟩
 rw[Obj.data_mapFields hd];simp[rawInt]
theorem qr(I:A.handled=none)(c:s.heap.IsTupleIter it t i)(ht:s.heap.IsTuple t items)(H:items[i]? =none)
  (J:∀h' e,Heap.ExtBut it s.heap h'->(∃o,h'.get? e=some o/\o.cls=.type "StopIteration")->E (.ref e) {s with heap:=h'}):wpAny (model prog w) A (Builtin.SmallTypes.nextOf<|.ref it) Q E s:=by
 obtain⟨o,ho,Z,hd⟩:=id c;obtain⟨U,z,_,Y,B⟩:=ht;unfold Builtin.SmallTypes.nextOf;refine ae<|wpAny_callSpecial?_slot (name:=Str.ofString "__next__") c.typeIs F.slot_tuple_iterator_next<|wpAny_call_entry F.slot_tuple_iterator_next c.typeIs F.entry_tuple_iterator_next ?_<|F.args_tuple_iterator_next_1 _;refine ae (m:=field (.ref it) 0)<|bT ho hd (x:= .ref t) rfl ?_;refine ae (m:=field (.ref it) 1)<|bT ho hd (x:= .int i 0) rfl ?_;refine ae (m:=seqItems?<|.ref t)<|wpAny_seqItems z B ?_;simp only[toNat_natCast,H];refine ae<|wpAny_rule<|ae<|wpAny_setField ho hd (by simp)<|ae (m:=newExc (.type "StopIteration") []) ?_
 unfold newExc newTuple;refine ae<|wpAny_newObj_type (ae (m:=firstArgMember _ _)<|wpAny_of_eq (a:=Value.none) (by first|rfl|(simp only[firstArgMember];rfl))<|wpAny_newObj_type ?_ (by size_fits)) (by size_fits)
 unfold raiseNew;refine ae<|wpAny_handled ?_;rw[show A.in1.handled=none from I];exact ae<|ai<|wpAny_throw<|J _ _ (((Heap.SameBut.update ..).extBut.push _).push _) ⟨_,aC _ rfl,rfl⟩
theorem kW(x:h.IsTuple a items)(k:∀o,h.get? a=some o->h'.get? a=some o):h'.IsTuple a items:=let⟨o,ho,r⟩:=x;⟨o,k o ho,r⟩
theorem c_{b:Addr}(x:h.IsTupleIter a b i)(k:∀o,h.get? a=some o->h'.get? a=some o):h'.IsTupleIter a b i:=let⟨o,ho,r⟩:=x;⟨o,k o ho,r⟩
end
theorem Draws.tup{w:World}{A:Around}(F:A.handled=none)(it t:Addr)(z:t≠it)(items:Array Value):
  Draws prog w A it [it,t] items.size (λi v=>items[i]? =some v) (λi h=>h.IsTupleIter it t i/\h.IsTuple t items) where
 live:=λ_ _ st=>let⟨o,ho,_⟩:=st.1;⟨o,ho⟩
 frame:=λ_ _ _ st B=>⟨c_ st.1 λo e=>B it (by simp) o e,kW st.2 λo e=>B t (by simp) o e⟩
 item:=λi s Q E hi st H=>ua st.1 st.2 (x:=items[i]) (by simp[hi]) λh' c hs'=>H _ h' s.toks (by simp[hi]) ⟨c,st.2.extBut hs'.extBut z⟩ hs'
 done:=λs Q E st I=>qr F st.1 st.2 (by simp) I
noncomputable def fg(h:Heap)(t:Addr):Heap:=(h.push {cls:= .type "tuple_iterator",data:= .fields #[.ref t,.int 0 0]}).push {cls:= .type "enumerate",data:= .fields #[.none,.bool false,.ref h.objs.size,rawInt 0,.none,.none]}
set_option maxHeartbeats 4000000 in
theorem oe(t:Addr)(items:Array Value)(n:Nat)(dct:Option Addr)(sl:Array (Option Value)):
  Meets (Builtin.«enumerate.__new__» ⟨[.type "enumerate",.ref t],[]⟩) (λ_ R s=>s.heap.get? t=some {cls:= .type "tuple",dict:=dct,data:= .seq items n,slots:=sl}/\
   R (.ok<|.ret<|.ref (s.heap.push {cls:= .type "tuple_iterator",data:= .fields #[.ref t,.int 0 0]}).objs.size) {s with heap:=fg s.heap t}):=
 .of_wp λprog w A R s h=>by
  obtain⟨H,g,d,tk,os⟩:=s;obtain⟨z,h⟩:=h;have B:=sub_enumerate;have F:Heap.IsTuple (Shared.heap ⟨H,g,d,tk,os⟩) t items:=⟨_,z,rfl,n,rfl⟩
  wp_walk using wpAny_loadPart' z
  refine wpAny_stack_any λst=>ai ?_;split
  .rename_i c _ _ _ _ _;cases(c==Value.type "enumerate")<;>(wp_walk using wpAny_loadPart' z,wpAny_pyIter_tuple F;exact⟨_,rfl,h⟩)
  .wp_walk using wpAny_loadPart' z,wpAny_pyIter_tuple F
   exact⟨_,rfl,h⟩
theorem qd{w:World}{A:Around}{E:Value->Shared->Prop}{s:Shared}{items:Array Value}{Q:Value->Shared->Prop}(J:s.heap.IsTuple t items)
  (h:IsEnum (fg s.heap t) (s.heap.objs.size+1) s.heap.objs.size 0 .none->(fg s.heap t).IsTupleIter s.heap.objs.size t 0->(∀b o,s.heap.get? b=some o->(fg s.heap t).get? b=some o)->Q (.ref<|s.heap.objs.size+1) {s with heap:=fg s.heap t}):
  wpAny (model prog w) A (call (.type "enumerate") [.ref t]) Q E s:=by
 obtain⟨⟨c,dct,dt,sl⟩,I,z,n,hd⟩:=J
 replace z:c=.type "tuple":=z
 replace hd:dt=.seq items n:=hd
 subst z hd;refine callType_new F.called_enumerate (by decide) (F.typeCall_enumerate_1 _) (F.newCall_enumerate_1 _) (λobj=>F.args_object_init_2 obj _) F.entry_enumerate_new (oe t items n dct sl) ⟨I,?_⟩
 have B:(s.heap.push {cls:= .type "tuple_iterator",data:= .fields #[.ref t,.int 0 0]}).objs.size=s.heap.objs.size+1:=Heap.size_push ..
 have H:IsEnum (fg s.heap t) (s.heap.objs.size+1) s.heap.objs.size 0 .none:=by rw[<-B];exact aC _ rfl
 show _/\_;rw[B];exact⟨⟨_,H,rfl⟩,h H ⟨_,ah _<|aC _ rfl,rfl,rfl⟩ λb o x=>ah _<|ah _ x⟩
theorem sY{w:World}{A:Around}{E:Value->Shared->Prop}{s:Shared}{e it:Addr}{i:Nat}{items:Array Value}{old:Value}{Q:Option Value->Shared->Prop}(H:A.handled=none)
  (I:IsEnum s.heap e it i old)(c:s.heap.IsTupleIter it t i)(ht:s.heap.IsTuple t items)(B:items[i]? =none)(J:∀h',Heap.ExtBut it s.heap h'->Q none {s with heap:=h'}):wpAny (model prog w) A (pyNext<|.ref e) Q E s:=by
 have D:Draws prog w A.in1 it [it,t] 0 (λ_ _=>True) (λ_ h=>h.IsTupleIter it t i/\h.IsTuple t items):=by
  refine⟨λ_ _ st=>?_,λ_ h h' st z=>?_,λj s' Y Z F=>absurd F<|not_lt_zero _,λs' Y Z st U=>qr H st.1 st.2 B U⟩
  .obtain⟨o,ho,_⟩:=st.1;exact⟨o,ho⟩
  .exact⟨c_ st.1 λo e=>z it (by simp) o e,kW st.2 λo e=>z t (by simp) o e⟩
 exact wpAny_pyNext_enum_endD D I ⟨c,ht⟩ J
end PySem
namespace L2
open PySem PySem.Spec PyProof.Rows
noncomputable def BJ(K:aF)(a:Addr):It:=
 ⟨λi H=>∃xs x,fP K H a xs/\xs[i]? =some x,
  λi H v H'=>∃p x,v=.ref p/\H p=none/\H'=upd H p (.tup [.int (i:Int),x])/\∀xs,fP K H a xs->xs[i]? =some x,
  λi H=>∃xs,fP K H a xs/\xs.length<=i⟩
noncomputable def Dn(e it a:Addr)(i:Nat)(h:Heap):Prop:=(∃old,IsEnum h e it (i:Int) old)/\h.IsTupleIter it a i
theorem pd{P:Program}{w:World}{K:aF}{elts:List Expr}{k:Nat}{pos:Pos}(a e it:Addr)(Z:e≠it):Turn P w K (.Tuple elts k pos) (BJ K a) [e,it] e (Dn e it a) where
 mem:=by simp
 obj:=λi h st b B=>by
  obtain⟨⟨old,U⟩,o,ho,c,d⟩:=st;rcases mem_cons.mp B with rfl|B
  .exact⟨_,U,λv z=>by have z':Data.fields _=Data.cell v:=z;cases z'⟩
  .have:b=it:=by simpa using B
   subst this;exact⟨o,ho,λv z=>by rw[d] at z;cases z⟩
 keep:=λi h h' ⟨⟨old,U⟩,st⟩ kk=>⟨⟨old,kk e (by simp) _ U⟩,c_ st λo q=>kk it (by simp) o q⟩
 item:=by
  intro X hP hw hK Y i pins s W H E I hf st hg;subst hP hw hK;obtain⟨⟨old,U⟩,J⟩:=st;obtain⟨xs,x,hq,hx⟩:=hg;obtain⟨its,rv,p,hz⟩:=I.tuple hq;obtain⟨u,hu,ru⟩:=rv.get hx;have pt:s.heap.IsTuple a its.toArray:=p
  have nea:e≠a:=by
   obtain⟨o,ho,Y,_⟩:=pt;intro z;rw[<-z,U] at ho;cases ho;have Y:Value.type "enumerate"=Value.type "tuple":=Y;exact absurd Y (by decide)
  have nia:a≠it:=by
   obtain⟨o,ho,Y,_⟩:=pt;obtain⟨o2,ho2,hc2,_⟩:=J;intro z;rw[<-z,ho] at ho2;cases ho2;rw[Y] at hc2;exact absurd hc2 (by decide)
  refine wpAny_pyNext_enum_itemD (Draws.tup (A:=X.A.in1) (I.ok.hd Y) it a nia its.toArray) U ⟨J,pt⟩ (by have:=(aq hu).1;simpa using this) Z (by simp[Z,nea]) λu' h1 tk hP heo hst ht1 hz1 hk1=>?_
  have eu:u'=u:=by
   have:its[i]? =some u':=by simpa using hP
   rw[hu] at this;exact(ak this).symm
  subst eu;refine⟨_,rfl,wpAny_letOwnedTupleGo_enum heo λh2 he2 F=>?_⟩
  replace F:Heap.SameBut e h1 h2:=F
  have lt:=au U;have ht2:h2.get? s.heap.objs.size=some {cls:= .type "tuple",data:= .seq #[.int i tk,u']}:=(F.2 _<|bd lt).trans ht1;have hn:H s.heap.objs.size=none:=I.hok.fresh<|aa _
  have I2:Inv X pins W (upd H s.heap.objs.size<|.tup [.int (i:Int),x]) {s with heap:=h2,toks:=tk+1}:=by
   refine I.turnLaid (fp:=[e,it]) hf (λb o B q=>?_) (aa _) ⟨(by show 2<=sizeLine;decide),[.int i tk,u'],.cons ⟨_,rfl⟩<|.cons ru .nil,?_⟩
   .have hbe:b≠e:=λz=>B (by simp[z])
    have hbi:b≠it:=λz=>B (by simp[z])
    exact(F.2 b hbe).trans<|hk1 b o hbe hbi q
   .exact⟨_,ht2,⟨rfl,rfl⟩,_,rfl⟩
  refine⟨.ref s.heap.objs.size,_,I2,rfl,⟨_,x,rfl,hn,rfl,λys hy=>by rw[I.tuple_inj hy hq];exact hx⟩,⟨⟨u',?_⟩,?_⟩,λb B=>?_⟩
  .have:((i+1:Nat):Int)=(i:Int)+1:=by omega
   rw[this];exact he2
  .exact c_ hst.1 λo q=>(F.2 it<|Ne.symm Z).trans q
  .obtain⟨f0,_⟩:=hf b B
   have:b≠s.heap.objs.size:=by
    rcases mem_cons.mp B with rfl|B
    .exact aw lt
    .have:b=it:=by simpa using B
     subst this;obtain⟨o,ho,_⟩:=J;exact aw<|au ho
   rw[aI this];exact f0
 done:=by
  intro X hP hw hK Y i pins s W H E I hf st hg;subst hP hw hK;obtain⟨⟨old,U⟩,J⟩:=st;obtain⟨xs,hq,hx⟩:=hg;obtain⟨its,rv,p,hz⟩:=I.tuple hq;obtain⟨f0,f1,f2,f3,f4,f5⟩:=hf it (by simp)
  have hl:=rv.length;exact sY (I.ok.hd Y) U J (show s.heap.IsTuple a its.toArray from p) (by simp;omega) λh' eb=>⟨rfl,I.turned (t':=s.toks) (λb o B e=>eb b o B e) f0 f1 f3 f4 f5⟩
 self:=λ_ _ _ _ _ st h=>wpAny_pyIter_enum st.1.choose_spec h
def vL(K:aF)(tl:TA):TI:=λW H R=>tl W H λvs H1=>∃a,vs=[.ref a]/\(((∃xs,dO K H1 a xs)/\R (Ft K a) H1)∨((∃xs,fP K H1 a xs)/\R (BJ K a) H1))
theorem nW{X:Cx}{elts:List Expr}{k:Nat}{Z:Pos}{a:Expr}{ta:TA}{p pos:Pos}(hg:Gl X "enumerate")(hm:X.mg "enumerate"=none)(ha:PA X [a] ta)(hs:starEach [a] X.env=[(false,eval a X.env)]):
  PI X (.Tuple elts k Z) (.Call (.Name "enumerate" p) [a] [] pos) (vL X.K ta):=by
 intro pins s W H R I h;refine Call_<|ft I hg hm boot_enumerate<|a7 (bZ (ha pos pins s W H _ I h) λus c ⟨vs,H1,I1,r1,q1⟩=>?_) hs rfl;obtain⟨a,e,q⟩:=q1;subst e;cases r1 with
 |cons r rr=>
  cases rr;cases r
  have new:∀b∈[c.heap.objs.size+1,c.heap.objs.size],iP X pins H1 b:=λb Y=>by
   have F:c.heap.objs.size<=b:=by
    rcases mem_cons.mp Y with rfl|Y
    .exact le_succ _
    .have:b=c.heap.objs.size:=by simpa using Y
     rw[this];exact aa _
   exact I1.fpOk F<|I1.hok.fresh F
  rcases q with⟨⟨xs,hq⟩,q⟩|⟨⟨xs,hq⟩,q⟩
  .obtain⟨its,rv,J,hz⟩:=I1.list hq;refine call_enumerate_list J.isList λh' B z hsz U=>?_;refine wpAny_pyIter_enum B ?_;exact⟨_,[c.heap.objs.size+1,c.heap.objs.size],_,_,H1,rfl,I1.kept (t':=c.toks) U,rX a _ _<|bd<|aJ _,⟨⟨_,B⟩,z⟩,new,q⟩
  .obtain⟨its,rv,J,hz⟩:=I1.tuple hq;refine qd (show c.heap.IsTuple a its.toArray from J) λB z U=>?_;refine wpAny_pyIter_enum B ?_;exact⟨_,[c.heap.objs.size+1,c.heap.objs.size],_,_,H1,rfl,I1.kept (t':=c.toks) U,pd a _ _<|bd<|aJ _,⟨⟨_,B⟩,z⟩,new,q⟩
end L2
namespace Ev
open PySem PySem.Spec PyProof.Rows L2
variable{G G0:Nat->Addr}
def eA(K:aF)(J:It)(s:Src)(H0:Hp)(G0:Nat->Addr)(m0:Nat):Prop:=∀H G st i,Ext H0 H G0 G m0 st.length->Sim K H G st->
 (nxt s i st=some none->J.stop i H)/\∀x,nxt s i st=some (some x)->J.go i H/\∀v H',J.yld i H v H'->Ext H H' G G st.length st.length/\Sim K H' G st/\VRel K H' G st.length x v
theorem Sim.tup{K:aF}{H:Hp}{st:aU}(S:Sim K H G st){p:Addr}(c:H p=none){xs:List V}:Ext H (upd H p<|.tup xs) G G st.length st.length/\Sim K (upd H p<|.tup xs) G st:=by
 have E:Ext H (upd H p<|.tup xs) G G st.length st.length:=⟨⟨aa _,λ_ _=>rfl,λb ys e=>by rw[aI<|aN e c];exact e,λb B u e=>by rw[aI<|aN e c];exact e⟩,λb B e k=>⟨by rw[aI<|aN e c];exact e,k⟩⟩
 refine⟨E,S.inj,λn o e=>?_⟩;have F:n<st.length:=(aq e).1;have z:G n≠p:=by obtain⟨_,h,_⟩:=S.obj F;exact aN h c
 have old:=S.ob n o e;exact old.move E.toExt0<|aI z
theorem eA.en{K:aF}{n:Nat}{H0:Hp}{m0:Nat}(Y:n<m0):eA K (Ft K<|G0 n) (.en n) H0 G0 m0:=λH G st i E S=>by
 simp only[nxt];cases q:st[n]? with
 |none=>exact⟨λe=>(by cases e),λx e=>(by cases e)⟩
 |some o=>
  have c:=S.ob n o q;rw[E.ad n Y] at c;cases o with
  |dct _|ins _ _|dcf _=>exact⟨λe=>(by cases e),λx e=>(by cases e)⟩
  |lst xs=>
   obtain⟨vs,h1,r⟩:=c;have l:=r.length;have h':dO K H (G0 n) vs:=dO.of h1;refine⟨λe=>?_,λx e=>?_⟩
   .have e:xs[i]?.map (λx=>D.tup [.int (i:Int),x])=none:=ak e;have e:xs[i]? =none:=by simpa using e
    exact⟨vs,h',by have:=List.getElem?_eq_none_iff.mp e;omega⟩
   .have e:xs[i]?.map (λx=>D.tup [.int (i:Int),x])=some x:=ak e;cases e2:xs[i]? with
    |none=>rw[e2] at e;cases e
    |some y=>rw[e2] at e;have e:D.tup [.int (i:Int),y]=x:=ak e;subst e;obtain⟨v,B,rv⟩:=r.get e2;refine⟨⟨vs,v,h',B⟩,λw H' I=>?_⟩;obtain⟨p,z,rfl,U,rfl,J⟩:=I;have:=J vs h';rw[B] at this;cases this;obtain⟨F,Z⟩:=S.tup (xs:=[.int (i:Int),v]) U;exact⟨F,Z,.tup (.inl<|.inl bf)<|.cons (.int _)<|.cons (rv.ext F) .nil⟩
theorem eA.enT{K:aF}{a:Addr}{xs:List D}{B:Hp}{m0:Nat}(r:VRel K B G0 m0 (.tup xs) (.ref a)):eA K (BJ K a) (.its<|dC 0 xs) B G0 m0:=λH G st i E S=>by
 cases r.ext E with
 | @tup _ _ vs h' r=>
  simp only[nxt,cJ];have l:=r.length;refine⟨λe=>?_,λx e=>?_⟩
  .have e:=ak e;have e:xs[i]? =none:=by simpa using e
   exact⟨vs,h',by have:=List.getElem?_eq_none_iff.mp e;omega⟩
  .have e:=ak e;cases e2:xs[i]? with
   |none=>rw[e2] at e;cases e
   |some y=>rw[e2] at e;have e:D.tup [.int ((0+i:Nat):Int),y]=x:=ak e;rw[zero_add] at e;subst e;obtain⟨v,c,rv⟩:=r.get e2;refine⟨⟨vs,v,h',c⟩,λw H' I=>?_⟩;obtain⟨p,z,rfl,U,rfl,J⟩:=I;have:=J vs h';rw[c] at this;cases this;obtain⟨F,Y⟩:=S.tup (xs:=[.int (i:Int),v]) U;exact⟨F,Y,.tup (.inl<|.inl bf)<|.cons (.int _)<|.cons (rv.ext F) .nil⟩
structure EltG(K:aF)(tt:V->Hp->(Option V->Hp->Prop)->Prop)(f:D->M (Option D))(H0:Hp)(G0:Nat->Addr)(m0:Nat):Prop where
 turn:∀{H:Hp}{G:Nat->Addr}{st st1:aU}{x:D}{v:V}{o:Option D}{Q:Option V->Hp->Prop},Ext H0 H G0 G m0 st.length->Sim K H G st->VRel K H G st.length x v->f x st=.ok o st1->
  (∀H1 G1 w,Ext H H1 G G1 st.length st1.length->Sim K H1 G1 st1->(match o,w with|some y,some z=>VRel K H1 G1 st1.length y z|none,none=>True|_,_=>False)->Q w H1)->tt v H Q
theorem gA{K:aF}{tt:V->Hp->(Option V->Hp->Prop)->Prop}{f:D->M (Option D)}{J:It}{s:Src}{H:Hp}{st st0:aU}{H0:Hp}{Q:VK}(ok:EltG K tt f H G st.length)
  (F:eA K J s H G st.length)(E0:Ext H0 H G0 G st0.length st.length)(S:Sim K H G st)(P:cv K H0 G0 st0 (cY f s st) Q):∀Dd,H Dd=none->∃W:Nat->Nat->List V->Hp->Prop,(∃m,W 0 m []<|upd H Dd<|.lst [])/\∀i m ys H2,W i m ys H2->
   (J.stop i H2/\Q (.ref Dd) H2)∨(J.go i H2/\∃N:List V->Hp->Prop,(∀Y H',N Y H'->∃m',m'<m/\W (i+1) m' Y H')/\
    ∀x H',J.yld i H2 x H'->tt x H' λw B=>match w with
     |some y=>B Dd=some (.lst ys)/\ys.length<sizeLine/\N (ys++[y]) (upd B Dd<|.lst<|ys++[y])
     |none=>N ys B):=by
 intro Dd hD;have sz:sizeLine=16777216:=sizeLine_eq;unfold cY at P;split at P
 case isFalse=>exact P.elim
 case isTrue hz=>
 refine⟨λi m ys H2=>i+m<=1000001/\∃G2 c acc,Ext H H2 G G2 st.length c.length/\Sim K H2 G2 c/\H2 Dd=some (.lst ys)/\(∀n,n<c.length->G2 n≠Dd)/\VRels K H2 G2 c.length acc ys/\acc.length<=i/\
   cv K H0 G0 st0 (bg (eL f s m i acc) alloc c) Q,⟨bG s st+1,by omega,G,st,[],?_,?_,bf,λn hn=>?_,.nil,aa _,P⟩,?_⟩
 .exact⟨⟨aa _,λ_ _=>rfl,λb xs e=>by rw[aI<|aN e hD];exact e,λb Z u e=>by rw[aI<|aN e hD];exact e⟩,λb Z e k=>⟨by rw[aI<|aN e hD];exact e,k⟩⟩
 .refine⟨S.inj,λn o e=>?_⟩;have hn:n<st.length:=(aq e).1;have hne:G n≠Dd:=by obtain⟨_,h,_⟩:=S.obj hn;exact aN h hD
  have E:Ext0 H (upd H Dd<|.lst []) G G st.length st.length:=⟨aa _,λ_ _=>rfl,λb xs e=>by rw[aI<|aN e hD];exact e,λb Z u e=>by rw[aI<|aN e hD];exact e⟩
  have old:=S.ob n o e;exact old.move E<|aI hne
 .obtain⟨_,h,_⟩:=S.obj hn;exact aN h hD
 .rintro i m ys H2 ⟨hm,G2,c,acc,E2,S2,hDd,ap,ra,la,P2⟩;obtain⟨zs,st9,U,P9⟩:=aT P2;obtain⟨c1,c2⟩:=F H2 G2 c i E2 S2;cases m with
  |zero=>cases U
  |succ m=>
   simp only[eL] at U;cases en:nxt s i c with
   |none=>rw[en] at U;cases U
   |some ox=>
    rw[en] at U;cases ox with
    |none=>
     have U:R.ok acc c=R.ok zs st9:=U;cases U;refine .inl ⟨c1 en,?_⟩;obtain⟨G',h1,h2,h3⟩:=S2.add hDd ap ra;have l:(c++[O.lst acc]).length=c.length+1:=by simp
     refine P9 H2 G' (.ref Dd) ?_ h3 ?_
     .rw[l];have E6:=E0.trans E2;refine⟨⟨Nat.le_succ_of_le E6.le,λn hn=>(h1 n<|ao hn E6.le).trans<|E6.ad n hn,E6.tp,E6.fz⟩,λb Z e k=>?_⟩;obtain⟨g1,g2⟩:=E6.fr b Z e k;refine⟨g1,λn hn=>?_⟩;by_cases hn':n=c.length
      .rw[hn',h2];obtain⟨g3,_⟩:=E0.fr b Z e k;exact(aN g3 hD).symm
      .rw[h1 n (by omega)];exact g2 n (by omega)
     .rw[<-h2,l];exact .ref<|aJ _
    |some x=>
     obtain⟨hgo,hyl⟩:=c2 x en
     refine .inr ⟨hgo,λY H'=>∃G2 c acc,Ext H H' G G2 st.length c.length/\Sim K H' G2 c/\H' Dd=some (.lst Y)/\(∀n,n<c.length->G2 n≠Dd)/\VRels K H' G2 c.length acc Y/\acc.length<=i+1/\
      cv K H0 G0 st0 (bg (eL f s m (i+1) acc) alloc c) Q,λY H' b=>⟨m,aJ _,by omega,b⟩,λv H' y=>?_⟩
     obtain⟨EY,SY,rv⟩:=hyl v H' y;obtain⟨hDd,_⟩:=EY.fr Dd _ hDd ap
     replace E2:=E2.trans EY
     replace ra:=ra.ext EY
     simp only[bg] at U;cases e3:f x c with
     |bad=>rw[e3] at U;cases U
     |ok o st3=>
      rw[e3] at U
      refine ok.turn (Q:=λw B=>match w with
       |some y=>B Dd=some (.lst ys)/\ys.length<sizeLine/\∃G2 c acc,Ext H (upd B Dd<|.lst<|ys++[y]) G G2 st.length c.length/\Sim K (upd B Dd<|.lst<|ys++[y]) G2 c/\upd B Dd (.lst<|ys++[y]) Dd=some (.lst<|ys++[y])/\(∀n,n<c.length->G2 n≠Dd)/\VRels K (upd B Dd<|.lst<|ys++[y]) G2 c.length acc (ys++[y])/\acc.length<=i+1/\
         cv K H0 G0 st0 (bg (eL f s m (i+1) acc) alloc c) Q
       |none=>∃G2 c acc,Ext H B G G2 st.length c.length/\Sim K B G2 c/\B Dd=some (.lst ys)/\(∀n,n<c.length->G2 n≠Dd)/\VRels K B G2 c.length acc ys/\acc.length<=i+1/\
         cv K H0 G0 st0 (bg (eL f s m (i+1) acc) alloc c) Q) E2 SY rv e3 λB G4 w E4 S4 r4=>?_
      obtain⟨I,ap4⟩:=E4.fr Dd _ hDd ap;cases o with
      |none=>
       cases w with
       |some _=>exact r4.elim
       |none=>
        have e9':eL f s m (i+1) acc st3=.ok zs st9:=U;refine⟨G4,st3,acc,E2.trans E4,S4,I,ap4,ra.ext E4,by omega,?_⟩
        unfold bg;rw[e9'];exact P9
      |some yd=>
       cases w with
       |none=>exact r4.elim
       |some yv=>
        have e9':eL f s m (i+1) (acc++[yd]) st3=.ok zs st9:=U;have lra:=ra.length;refine⟨I,by omega,G4,st3,acc++[yd],?_⟩
        have E5:Ext0 B (upd B Dd<|.lst<|ys++[yv]) G4 G4 st3.length st3.length:=⟨aa _,λ_ _=>rfl,λb xs e=>by rw[aI<|cm e I (by intro z;cases z)];exact e,λb Z u e=>by rw[aI<|cm e I (by intro z;cases z)];exact e⟩
        refine⟨?_,⟨S4.inj,λn Z e=>?_⟩,bf,ap4,VRels.ext0 E5<|(ra.ext E4).append<|.cons r4 .nil,by simp;omega,?_⟩
        .have E6:=E2.trans E4;refine⟨⟨E6.le,E6.ad,λb xs e=>E5.tp b xs<|E6.tp b xs e,λb Z u e=>E5.fz b Z u<|E6.fz b Z u e⟩,λb Z e k=>?_⟩;obtain⟨g1,g2⟩:=E6.fr b Z e k;exact⟨by rw[aI<|aN e hD];exact g1,g2⟩
        .have hn:n<st3.length:=(aq e).1;have old:=S4.ob n Z e;exact old.move E5<|aI<|ap4 n hn
        .unfold bg;rw[e9'];exact P9
theorem wv{K:aF}{J:It}{s:Src}{c:Hp}{m0:Nat}(F:db K J s c G0 m0):eA K J s c G0 m0:=λH G st i E S=>by obtain⟨h1,h2⟩:=F H G st i E S;refine⟨h1,λx e=>?_⟩;obtain⟨B,z⟩:=h2 x e;refine⟨B,λv H' y=>?_⟩;obtain⟨rfl,r⟩:=z v H' y;exact⟨Ext.refl _ _ _,S,r⟩
end Ev
namespace L2
open PySem PySem.Spec PyProof.Rows
theorem sB(its:List Value):slicePick its.toArray none none (some<|-1)=its.reverse.toArray:=by
 have h1:sliceBounds none none (some<|-1) its.toArray.size=((its.length:Int) - 1, -1, -1):=by simp[sliceBounds]
 have c:sliceRange ((its.length:Int) - 1) (-1) (-1)=(range its.length).map λk=>its.length - 1 - k:=by
  unfold sliceRange;simp only[show ¬((-1:Int)>0) by decide,if_false]
  have B:(if(its.length:Int) - 1> -1 then((its.length:Int) - 1 - -1 - -1 - 1) / (- -1) else 0).toNat=its.length:=by
   split
   .rw[show(- -1:Int)=1 from rfl,Int.ediv_one];omega
   .omega
  rw[B];refine List.map_congr_left λk z=>?_;have:=mem_range.mp z;omega
 unfold slicePick;rw[h1,c,filterMap_map];congr 1
 have key:∀(l:List Value)(n:Nat),n<=l.length->(range n).filterMap (λk=>l[n - 1 - k]?)=(l.take n).reverse:=by
  intro l n
  induction n with
  |zero=>intro _;rfl
  |succ n ih=>
   intro F;rw[List.range_succ_eq_map,filterMap_cons,filterMap_map];have h0:l[n+1 - 1 - 0]? =some l[n]:=by simp
   rw[h0]
   have:(λk=>l[n+1 - 1 - k]?) ∘ succ=λk=>l[n - 1 - k]?:=by funext k;simp only[Function.comp];congr 1;omega
   rw[this,ih (by omega),List.take_succ_eq_append_getElem (by omega),List.reverse_append]
   rfl
 have:=key its its.length<|aa _;rw[take_length] at this;rw[<-this];congr 1;funext k;simp
section
variable{X:Cx}{e st:Expr}{te:TE}{pos p2:Pos}
def FP(K:aF)(te ts:TE):TE:=λW H Q=>te W H λx H1=>ts W H1 λy H2=>y=.int (-1)/\∃a xs,x=.ref a/\dO K H2 a xs/\∀p,H2 p=none->Q (.ref p) (upd H2 p<|.lst xs.reverse)
theorem CH{ts:TE}(Z:PE X e te)(hs:PE X st ts):PE X (.Subscript e (.Slice none none (some st) p2) pos) (FP X.K te ts):=by
 intro pins s W H Q I h;refine Subscript_<|bZ (Z pins s W H _ I h) λv F ⟨x,H1,I1,r1,q1⟩=>?_;refine wpAny_Slice ?_;rw[evalPart_none];refine ai ?_;refine ai ?_;rw[evalPart_some];refine bZ (hs pins F W H1 _ I1 q1) λu c ⟨y,H3,I3,r3,q3⟩=>?_;obtain⟨rfl,a,xs,rfl,Y,q⟩:=q3;obtain⟨t,rfl⟩:=r3;cases r1;have z:Inv X pins W H3 {c with heap:=c.heap.push {cls:= .type "slice",data:= .fields #[.none,.none,.int (-1) t]}}:=I3.kept (t':=c.toks) λb J q=>ah _ q;obtain⟨its,r,ht,U⟩:=z.list Y;have B:=r.length;show wpAny (model X.prog X.w) X.A (subscriptTail e (.Slice none none (some st) p2) (.ref a)<|.ref c.heap.objs.size) (EP X pins W Q) X.xe {c with heap:=c.heap.push {cls:= .type "slice",data:= .fields #[.none,.none,.int (-1) t]}};refine tail_any (ops:=[.ref a,.ref c.heap.objs.size]) ht.isList.typeIs slot_list_getitem.lookup ?_ (by with_unfolding_all rfl)
 refine wpAny_getItem_list_slice ht.isList (Heap.IsSliceOf.new ..) .none .none (.int (-1) t) (by simp) ?_ (by rw[size_toArray]<;>omega)
 rw[sB];refine⟨.ref _,_,z.laid (t':=c.toks) (o:= .lst xs.reverse) (λb J q=>ah _ q) (aa _) ?_,rfl,q _<|z.hok.fresh<|aa _⟩;exact⟨by rw[length_reverse];exact U,_,0,r.rev,aC _ rfl⟩
end
end L2
namespace Ev
open PySem PySem.Spec PyProof.Rows L2
variable{a b c e elt it iter t tg:Expr}{i n:Nat}{f x:Str}{es ifs r:List Expr}{H:Hp}{W:L2.St}{a' b' c' e' l' s' z:Ex}{loc:Loc}{st st1:aU}{G:Nat->Addr}{sc scope:Scope}{N xs:List Str}{RR:It->Hp->Prop}
section
variable{T:Tab}{g:eX}{X:Cx}{sc:Scope}{N:List Str}{pos p2:Pos}
theorem uV{m:Loc->M D}(h:PE X e (tE X.K m))(B:∀whole,isTrue e X.env whole=(do let v <-whole;standAt e.pos;holding [v]<|truthy v)):PT X e (tT X.K m):=
 (Aq h B).imp λW H Q z=>by
  obtain⟨G,st,loc,S,L,P⟩:=z;obtain⟨b,st1,F,k⟩:=P.inv;exact bj S L F λH1 G1 v J I c=>by cases c;exact⟨b,rfl,k H1 G1 J I⟩
theorem jH{d:D}{v:V}(h:PE X e (tC v))(r:∀H G m,VRel X.K H G m d v):PE X e (tE X.K<|run g<|.c d):=
 h.imp λW H Q z=>by obtain⟨G,st,loc,S,L,P⟩:=z;exact P.same S<|r H G _
theorem wc(C:Ctx T g X sc N)(hi:f6 N x=some i)(c:DZ sc x):PE X (.Name x pos) (tE X.K<|run g<|.v i):=by
 have B:X.N[i]? =some x:=by rw[C.n];exact cM hi
 obtain⟨h1,h2⟩:=C.nm x (ag<|cM hi);refine(Ay B (by rw[C.sc];exact c) h1 h2).imp λW H Q z=>?_
 obtain⟨G,st,loc,S,L,P⟩:=z;change cv X.K H G st (fe (loc[i]?.join) st) Q at P;unfold fe at P;cases e:loc[i]? with
 |none=>rw[e] at P;exact P.elim
 |some o=>
  rw[e] at P;cases o with
  |none=>exact P.elim
  |some d=>obtain⟨v,c,r⟩:=L.at_ i d e;exact⟨v,c,P.same S r⟩
theorem zm{xs:List Ex}{k:Nat}(F:PA X es (tA X.K<|runs g xs))(U:es.length<=1000)(Y:es.length=xs.length):PE X (.Tuple es k pos) (tE X.K<|run g<|.tup xs):=
 (Az F).imp λW H Q B=>by obtain⟨G,st,loc,S,L,P⟩:=B;obtain⟨ds,st1,z,P⟩:=aT P;have sz:sizeLine=16777216:=sizeLine_eq;refine jT S L z λH1 G1 vs J I c=>⟨?_,(P.mono J).tup I c⟩;have:=runs_len z;have l:=c.length;omega
where
 runs_len:∀{xs:List Ex}{loc:Loc}{st st1:aU}{ds:List D},runs g xs loc st=.ok ds st1->ds.length=xs.length
 |[],loc,st,st1,ds,e=>by rw[runs] at e;cases e;rfl
 |x::xs,loc,st,st1,ds,e=>by
  rw[runs] at e;simp only[bg,ret] at e;split at e
  .split at e
   .rename_i e2;cases e;rw[length_cons,length_cons,runs_len e2]
   .cases e
  .cases e
theorem Dq{xs:List Ex}(F:PA X es (tA X.K<|runs g xs))(U:es.length<=1000)(Y:es.length=xs.length):PE X (.List es pos) (tE X.K<|run g<|.lst xs):=
 (AD F).imp λW H Q B=>by obtain⟨G,st,loc,S,L,P⟩:=B;obtain⟨ds,st1,z,P⟩:=aT P;have sz:sizeLine=16777216:=sizeLine_eq;refine jT S L z λH1 G1 vs J I c=>⟨?_,(P.mono J).alloc I c⟩;have:=zm.runs_len z;have l:=c.length;omega
theorem BD{pins:List (Addr×Obj)}{s:Shared}(I:Inv X pins W H s):sysModules<s.heap.objs.size:=lt_trans (by decide) (show mainGlobals<s.heap.objs.size from(I.mod.glob.keeps I.bk).lt)
theorem Dw:PE X (.Dict [] [] pos) (tE X.K<|run g .emp):=by intro pins s W H Q I ⟨G,st,loc,S,L,P⟩;refine wpAny_Dict_empty ⟨.ref s.heap.objs.size,_,I.laid (a:=s.heap.objs.size) (o:= .dK []) (t':=s.toks) (λ_ _ q=>ah _ q) (aa _) ?_,rfl,P.allocD S _<|I.hok.fresh<|aa _⟩;exact⟨zero_le _,beq_eq_false_iff_ne.mpr<|Ne.symm<|aw<|BD I,[],.nil,Heap.DictOf.new s.heap⟩
theorem qD{a b:Ex}{f:D->D->M D}{Q:VK}(h:tE X.K (λloc=>bg (run g a loc) λx=>bg (run g b loc) λy=>f x y) W H Q):B_ (rD X.K f) (tE X.K<|run g a) (tE X.K<|run g b) W H Q:=by obtain⟨G,st,loc,S,L,P⟩:=h;obtain⟨x,st1,U,P⟩:=aT P;obtain⟨y,c,J,P⟩:=aT P;exact bj S L U λH1 G1 vx B Z I=>bj Z (L.ext B) J λH2 G2 vy z Y F=>⟨G2,c,x,y,Y,I.ext z,F,P.mono<|B.trans z⟩
theorem DA{op:Operator}{o:Bo}(ho:DI op=some o)(z:PE X a (tE X.K<|run g a'))(c:PE X b (tE X.K<|run g b')):PE X (.BinOp a op b pos) (tE X.K<|run g<|.bin o a' b'):=by
 have e:op=o.op:=by cases op<;>cases ho<;>rfl
 subst e;refine(CJ (AL o) z c).imp λW H Q h=>qD ?_;obtain⟨G,st,loc,S,L,P⟩:=h;exact⟨G,st,loc,S,L,P⟩
theorem Do(F:PE X a (tE X.K<|run g a')):PE X (.UnaryOp .Not a pos) (tE X.K<|run g<|.not a'):=
 (AB F).imp λW H Q B=>by
  obtain⟨G,st,loc,S,L,P⟩:=B;obtain⟨x,st1,U,P⟩:=aT P;obtain⟨i,c,J,P⟩:=aT P;obtain⟨I,rfl⟩:=bR J;have:=cg I;subst this;exact bj S L U λH1 G1 v Z Y z=>by cases z;exact⟨i,rfl,(P.mono Z).same Y<|.bl _⟩
theorem B2(B:PT X a (tT X.K<|run g a')):PT X (.UnaryOp .Not a pos) (tT X.K<|run g<|.not a'):=
 (Ar B).imp λW H Q z=>by obtain⟨G,st,loc,S,L,P⟩:=z;obtain⟨x,st1,J,P⟩:=dE P;obtain⟨i,c,I,P⟩:=dE P;obtain⟨F,rfl⟩:=bR I;have:=cg F;subst this;exact jk S L J λH1 G1 Y U=>P H1 G1 Y U
theorem DB(U:PE X a (tE X.K<|run g a'))(J:PE X (.BoolOp .And (b::r) pos) (tE X.K<|run g b')):PE X (.BoolOp .And (a::b::r) pos) (tE X.K<|run g<|.and a' b'):=
 (AG U J).imp λW H Q I=>by
  obtain⟨G,st,loc,S,L,P⟩:=I;obtain⟨x,st1,e1,P⟩:=aT P;obtain⟨i,c,Z,P⟩:=aT P;obtain⟨Y,rfl⟩:=bR Z;have:=cg Y;subst this;refine bj S L e1 λH1 G1 v z B F=>?_;cases F;refine⟨i,rfl,?_⟩;cases i with
  |true=>rw[if_pos rfl];exact⟨G1,c,loc,B,L.ext z,P.mono z⟩
  |false=>rw[if_neg aQ];exact(P.mono z).same B<|.bl false
theorem Fd(U:PE X a (tE X.K<|run g a'))(J:PE X (.BoolOp .Or (b::r) pos) (tE X.K<|run g b')):PE X (.BoolOp .Or (a::b::r) pos) (tE X.K<|run g<|.or a' b'):=
 (CI U J).imp λW H Q I=>by
  obtain⟨G,st,loc,S,L,P⟩:=I;obtain⟨x,st1,e1,P⟩:=aT P;obtain⟨i,c,Z,P⟩:=aT P;obtain⟨Y,rfl⟩:=bR Z;have:=cg Y;subst this;refine bj S L e1 λH1 G1 v z B F=>?_;cases F;refine⟨i,rfl,?_⟩;cases i with
  |false=>rw[if_neg aQ];exact⟨G1,c,loc,B,L.ext z,P.mono z⟩
  |true=>rw[if_pos rfl];exact(P.mono z).same B<|.bl true
theorem y8{op:BoolOp}{t:TT}(h:PT X (.BoolOp op es pos) t):PW X (.BoolOp op es pos) t:=λc pins s W H Q I q=>by have:=h pins s W H Q I q;exact this
theorem B5(J:PT X a (tT X.K<|run g a'))(I:PT X (.BoolOp .And (b::r) pos) (tT X.K<|run g b')):PT X (.BoolOp .And (a::b::r) pos) (tT X.K<|run g<|.and a' b'):=
 (Ao J<|y8 I).pt.imp λW H Q F=>by
  obtain⟨G,st,loc,S,L,P⟩:=F;obtain⟨x,st1,Z,P⟩:=dE P;obtain⟨i,c,Y,P⟩:=dE P;obtain⟨U,rfl⟩:=bR Y;have:=cg U;subst this;refine jk S L Z λH1 G1 z B=>?_;cases i with
  |true=>rw[if_pos rfl];exact⟨G1,c,loc,B,L.ext z,P.mono z⟩
  |false=>rw[if_neg aQ];exact P H1 G1 z B
theorem Ej(J:PT X a (tT X.K<|run g a'))(I:PT X (.BoolOp .Or (b::r) pos) (tT X.K<|run g b')):PT X (.BoolOp .Or (a::b::r) pos) (tT X.K<|run g<|.or a' b'):=
 (CD J<|y8 I).pt.imp λW H Q F=>by
  obtain⟨G,st,loc,S,L,P⟩:=F;obtain⟨x,st1,Z,P⟩:=dE P;obtain⟨i,c,Y,P⟩:=dE P;obtain⟨U,rfl⟩:=bR Y;have:=cg U;subst this;refine jk S L Z λH1 G1 z B=>?_;cases i with
  |false=>rw[if_neg aQ];exact⟨G1,c,loc,B,L.ext z,P.mono z⟩
  |true=>rw[if_pos rfl];exact P H1 G1 z B
theorem BZ{op:BoolOp}{t:TT}(c:PT X a t):PT X (.BoolOp op [a] pos) t:=by
 cases op with
 |And=>exact(xG c).pt
 |Or=>exact(An c).pt
theorem Dy(c:X.A.units+100<cLine){op:CmpOp}(B:behindInMarks op b=false)(I:PE X a (tE X.K<|run g a'))(F:PE X b (tE X.K<|run g b')):PE X (.Compare a [op] [b] pos) (tE X.K<|run g<|.cmp op a' b'):=
 (xT (vo c op) I F B).imp λW H Q z=>by obtain⟨G,st,loc,S,L,P⟩:=z;exact qD ⟨G,st,loc,S,L,P⟩
theorem xj{m:Loc->M D}{t:TE}{Q:Bool->Hp->Prop}(k:∀c,tE X.K m W H c->t W H c)(h:tT X.K m W H Q):yZ t W H Q:=by
 refine k _ ?_;obtain⟨G,st,loc,S,L,P⟩:=h;obtain⟨b,st1,e,q⟩:=P.inv;exact bj S L e λH1 G1 v F B z=>by cases z;exact⟨b,rfl,q H1 G1 F B⟩
theorem B4(c:X.A.units+100<cLine){op:CmpOp}(B:behindInMarks op b=false)(I:PE X a (tE X.K<|run g a'))(F:PE X b (tE X.K<|run g b')):PT X (.Compare a [op] [b] pos) (tT X.K<|run g<|.cmp op a' b'):=
 (xH (vo c op) I F B).imp λW H Q h=>xj (λJ z=>by obtain⟨G,st,loc,S,L,P⟩:=z;exact qD ⟨G,st,loc,S,L,P⟩) h
theorem Fe(c:X.A.units+100<cLine)(hs:fc b=true)(F:PE X a (tE X.K<|run g a'))(B:PE X b (tE X.K<|run g b')):PE X (.Subscript a b pos) (tE X.K<|run g<|.ix a' b'):=
 (CK (EV c) F B (λo i=>by cases b<;>first|rfl|cases hs)).imp λW H Q z=>by obtain⟨G,st,loc,S,L,P⟩:=z;exact qD ⟨G,st,loc,S,L,P⟩
theorem Bk{lo hi:Option Expr}{h':Ex}{U Y:Bool}{tl th:TO}(ha:PE X a (tE X.K<|run g a'))(B:PO X lo tl)(F:PO X hi th)
  (kl:∀{H:Hp}{G:Nat->Addr}{st st1:aU}{loc:Loc}{W:L2.St}{o:Option Int}{Q:Option Int->Hp->Prop},Sim X.K H G st->LRel X.K H G st.length loc W->(if U=true then bg (run g l' loc) λz=>bg (fe<|k5 z) λi=>ret (some i) else ret none) st=R.ok o st1->
   (∀H1 G1,Ext H H1 G G1 st.length st1.length->Sim X.K H1 G1 st1->Q o H1)->tl W H Q)
  (kh:∀{H:Hp}{G:Nat->Addr}{st st1:aU}{loc:Loc}{W:L2.St}{o:Option Int}{Q:Option Int->Hp->Prop},Sim X.K H G st->LRel X.K H G st.length loc W->(if Y=true then bg (run g h' loc) λz=>bg (fe<|k5 z) λi=>ret (some i) else ret none) st=R.ok o st1->
   (∀H1 G1,Ext H H1 G G1 st.length st1.length->Sim X.K H1 G1 st1->Q o H1)->th W H Q):PE X (.Subscript a (.Slice lo hi none p2) pos) (tE X.K<|run g<|.sl a' l' h' U Y):=
 (vg EC ha B F).imp λW H Q hp=>by obtain⟨G,st,loc,S,L,P⟩:=hp;obtain⟨x,st1,e1,P⟩:=aT P;obtain⟨ol,st2,e2,P⟩:=aT P;obtain⟨oh,c,e3,P⟩:=aT P;refine bj S L e1 λH1 G1 vx J S1 r1=>kl S1 (L.ext J) e2 λH2 G2 I S2=>kh S2 ((L.ext J).ext I) e3 λH3 G3 Z S3=>⟨G3,c,x,S3,(r1.ext I).ext Z,P.mono<|(J.trans I).trans Z⟩
theorem qN{o:Option Int}{Q:Option Int->Hp->Prop}(S:Sim X.K H G st)(L:LRel X.K H G st.length loc W)(e:(if false=true then bg (run g l' loc) λz=>bg (fe<|k5 z) λi=>ret (some i) else ret none) st=R.ok o st1)
  (k:∀H1 G1,Ext H H1 G G1 st.length st1.length->Sim X.K H1 G1 st1->Q o H1):qt W H Q:=by
 rw[if_neg aQ] at e;cases e;exact k H G (Ext.refl _ _ _) S
theorem iz{o:Option Int}{Q:Option Int->Hp->Prop}(S:Sim X.K H G st)(L:LRel X.K H G st.length loc W)(e:(if true=true then bg (run g l' loc) λz=>bg (fe<|k5 z) λi=>ret (some i) else ret none) st=R.ok o st1)
  (k:∀H1 G1,Ext H H1 G G1 st.length st1.length->Sim X.K H1 G1 st1->Q o H1):y4 (tE X.K<|run g l') W H Q:=by
 rw[if_pos rfl] at e;simp only[bg,ret] at e;cases e1:run g l' loc st with
 |bad=>rw[e1] at e;cases e
 |ok z st2=>
  rw[e1] at e;simp only[fe] at e;cases e2:k5 z with
  |none=>rw[e2] at e;cases e
  |some i=>
   rw[e2] at e;cases e;have:=vG e2;subst this;exact bj S L e1 λH1 G1 v F B c=>by cases c;exact⟨i,rfl,k H1 G1 F B⟩
theorem Ds(J:PT X c (tT X.K<|run g c'))(Y:PE X a (tE X.K<|run g a'))(U:PE X b (tE X.K<|run g b')):PE X (.IfExp c a b pos) (tE X.K<|run g<|.ite c' a' b'):=
 (vi J Y U).imp λW H Q I=>by
  obtain⟨G,st,loc,S,L,P⟩:=I;obtain⟨x,st1,e1,P⟩:=aT P;obtain⟨i,z,e2,P⟩:=aT P;obtain⟨Z,rfl⟩:=bR e2;have:=cg Z;subst this;refine jk S L e1 λH1 G1 B F=>?_;cases i with
  |true=>rw[if_pos rfl];exact⟨G1,z,loc,F,L.ext B,P.mono B⟩
  |false=>rw[if_neg aQ];exact⟨G1,z,loc,F,L.ext B,P.mono B⟩
theorem VRels.rev{K:aF}{m:Nat}:∀{ds:List D}{vs:List V},VRels K H G m ds vs->VRels K H G m ds.reverse vs.reverse
 |_,_,.nil=>.nil
 |_,_,.cons h t=>by rw[reverse_cons,reverse_cons];exact(VRels.rev t).append<|.cons h .nil
theorem Fc{k:Nat}{p3 I F:Pos}(J:PE X a (tE X.K<|run g a')):PE X (.Subscript a (.Slice none none (some<|.UnaryOp .USub (.Constant (.int 1) k p3) I) F) pos) (tE X.K<|run g<|.rv a'):=by
 refine(CH J<|qM l9 g_).imp λW H Q c=>?_;obtain⟨G,st,loc,S,L,P⟩:=c;obtain⟨x,st1,U,P⟩:=aT P;refine bj S L U λH1 G1 v Y z B=>⟨1,rfl,rfl,?_⟩;unfold EF at P;split at P
 .split at P
  .rename_i xs q;cases B with
   |ref hn=>
    obtain⟨ys,h1,h2⟩:=z.ob _ _ q;exact⟨_,ys,rfl,dO.of h1,λp c=>P.mono Y|>.alloc z h2.rev p c⟩
  .exact P.elim
 .exact P.elim
theorem Bp{i:Int}{k:Nat}{p3:Pos}:PE X (.UnaryOp .USub (.Constant (.int i) k p3) pos) (tE X.K<|run g<|.c<|.int<|-i):=
 (qM l9 g_).imp λW H Q z=>by obtain⟨G,st,loc,S,L,P⟩:=z;exact⟨i,rfl,P.same S<|.int _⟩
theorem Ff{as:List Expr}{xs:List Ex}(C:Ctx T g X sc N)(hg:bH sc f=true)(hi:f6 T.fns f=some i)(ha:PA X (a::as) (tA X.K<|runs g xs))(hl:(a::as).length=xs.length)
  (he:starEach (a::as) X.env=(false,eval a X.env)::starEach as X.env)(c:(backTo pos<|starEach as X.env).any (·.1)=false):PE X (.Call (.Name f p2) (a::as) [] pos) (tE X.K<|run g<|.fn i xs):=by
 obtain⟨hd,ad,fd,ps,k,hm,U,hb,Y,B,F⟩:=C.fns i f<|cM hi
 have z:Gl X f:=by show X.env.scope.names.lookup f=some .globalImplicit;rw[C.sc];simpa[bH] using hg
 refine(xU F Y z hm U hb .nil za ha hd he c).imp λW H Q Z=>?_;obtain⟨G,st,loc,S,L,P⟩:=Z;obtain⟨ds,st1,e1,P⟩:=aT P;refine jT S L e1 λH1 G1 vs E1 S1 I=>?_;rw[append_nil];refine⟨?_,G1,st1,ds,S1,I,(gT.val P).mono E1⟩;by_cases hps:ds.length=ps.length
 .rw[<-I.length];exact hps
 .have J:=gT.val (E:=E0) P;rw[B ds st1 hps] at J;exact J.elim
theorem Dz{b:Bt}{as:List Expr}{xs:List Ex}(C:Ctx T g X sc N)(J:T.calm=true)(hg:bH sc f=true)(hb:BB.lookup f=some b)(U:PA X (a::as) (tA X.K<|runs g xs))
  (I:starEach (a::as) X.env=(false,eval a X.env)::starEach as X.env)(z:(backTo pos<|starEach as X.env).any (·.1)=false):PE X (.Call (.Name f p2) (a::as) [] pos) (tE X.K<|run g<|.bt b xs):=by
 have B:Gl X f:=by show X.env.scope.names.lookup f=some .globalImplicit;rw[C.sc];simpa[bH] using hg
 have F:∀x:Str,x∈tm->X.mg x=none:=C.blt
 have key:PE X (.Call (.Name f p2) (a::as) [] pos) (Ey (rB X.K b)<|tA X.K<|runs g xs):=by
  have c:=aL hb;have Y:eM X b.val (rB X.K b):=Bz (C.calm J) b;simp only[BB,mem_cons,mem_nil_iff,Prod.mk.injEq,or_false] at c;rcases c with⟨rfl,rfl⟩|⟨rfl,rfl⟩|⟨rfl,rfl⟩|⟨rfl,rfl⟩|⟨rfl,rfl⟩|⟨rfl,rfl⟩|⟨rfl,rfl⟩
  .exact iy Y B (F _ (by decide+kernel)) PySem.boot_len U (by decide+kernel) (by decide+kernel) I z
  all_goals first
   |exact sF Y B (F _ (by decide+kernel)) (by decide+kernel) U (by decide+kernel) (by decide+kernel) I z
   |exact iy Y B (F _ (by decide+kernel)) (by decide+kernel) U (by decide+kernel) (by decide+kernel) I z
 refine key.imp λW H Q hp=>?_;obtain⟨G,st,loc,S,L,P⟩:=hp;obtain⟨ds,st1,e1,P⟩:=aT P;exact jT S L e1 λH1 G1 vs E1 S1 Z=>⟨G1,st1,ds,S1,Z,P.mono E1⟩
end
set_option maxHeartbeats 8000000
section
variable{T:Tab}{g:eX}{X:Cx}{sc:Scope}{N:List Str}{pos:Pos}
theorem et(C:Ctx T g X sc N)(h:dw sc scope N xs=true):CompScope X scope/\(xs++pH scope X.N).Nodup/\(∀x∈xs,(scope.names.lookup x=some .local∨scope.names.lookup x=some .cell)/\(x==("__debug__":Str))=false/\(x==("__classdict__":Str))=false)/\∀z∈N,(wR z==("__debug__":Str))=false/\(wR z==("__classdict__":Str))=false:=by
 unfold dw at h;simp only[and_eq_true,all_eq_true] at h;obtain⟨⟨⟨⟨⟨h1,h2⟩,h3⟩,Z⟩,J⟩,I⟩:=h;refine⟨⟨by simpa using h1,of_decide_eq_true h2,λy F H=>?_,λy F Y=>?_,λz B=>?_⟩,by rw[C.n];exact of_decide_eq_true h3,λx U=>?_,λz B=>?_⟩
 .have b:=(J y F).1;rw[H] at b;simpa using b
 .have c:=(J y F).2;rw[Y] at c;show X.env.scope.names.lookup y.1=_∨X.env.scope.names.lookup y.1=_;rw[C.sc];simpa using c
 .rw[C.n] at B;obtain⟨⟨⟨a,b⟩,_⟩,_⟩:=I z B;exact⟨λH=>by rw[H] at a;simpa using a,of_decide_eq_true b⟩
 .obtain⟨⟨a,b⟩,c⟩:=Z x U;exact⟨by simpa using a,by simpa using b,by simpa using c⟩
 .obtain⟨⟨_,b⟩,c⟩:=I z B;exact⟨by simpa using b,by simpa using c⟩
theorem gz(C:Ctx T g X sc N)(h:dw sc scope N xs=true)(fp:List Addr)(s:Shared)(H:Hp):Ctx T g (bz X xs scope fp s H) (gZ sc scope) (xs++pH scope N):=by
 obtain⟨h1,h2,I,F⟩:=et C h;refine⟨?_,?_,by rw[<-C.n];exact h2,λy c=>?_,C.calm,C.un,C.fns,C.isks,C.blt,C.icl,C.mks⟩
 .show relabel scope X.env=gZ sc scope;rw[<-C.sc];rfl
 .show xs++pH scope X.N=xs++pH scope N;rw[C.n]
 .rcases mem_append.mp c with c|c
  .exact(I y c).2
  .obtain⟨z,B,rfl⟩:=mem_map.mp c;split
   .exact F z B
   .exact C.nm z B
theorem mw(h:scope.names.lookup x=some .local∨scope.names.lookup x=some .cell)(fp:List Addr)(s:Shared)(H:Hp):L2.Loc (relabel scope X.env) x/\((bz X xs scope fp s H).fn x=true∨(relabel scope X.env).names.lookup x=some .local):=by
 rcases h with h|h
 .exact⟨.inl<|lookup_relabel_local h,.inr<|lookup_relabel_local h⟩
 .exact⟨.inr<|iw h,.inl<|decide_eq_true h⟩
theorem xn{k:Loc->Src->M D}{Q:VK}(h:tE X.K (λloc=>bg (run g s' loc) λd=>bg (fe<|eQ false d) λs=>k loc s) W H Q)
  (Y:∀{J:It}{s:Src}{G G1:Nat->Addr}{st st1:aU}{loc:Loc}{H1:Hp},db X.K J s H1 G1 st1.length->Ext H H1 G G1 st.length st1.length->Sim X.K H1 G1 st1->LRel X.K H1 G1 st1.length loc W->cv X.K H G st (k loc s st1) Q->RR J H1)
  (c:∀loc n st,(∀xs,st[n]?≠some (.lst xs))->k loc (.at n) st=.bad):Df X.K (tE X.K<|run g s') W H RR:=by
 obtain⟨G,st,loc,S,L,P⟩:=h;obtain⟨d,st1,e1,P⟩:=aT P;obtain⟨s,B,e2,P⟩:=aT P;obtain⟨I,rfl⟩:=bR e2;refine bj S L e1 λH1 G1 v F U Z=>?_;cases Z with
 |tup h r=>cases I;exact⟨_,rfl,.inr ⟨⟨_,h⟩,Y (db.tup h r) F U (L.ext F) P⟩⟩
 |fl h r=>cases I;exact⟨_,rfl,.inl ⟨⟨_,h.sql⟩,Y (db.fl h r) F U (L.ext F) P⟩⟩
 | @ref n hn=>
  cases I;cases q:B[n]? with
  |none=>
   rw[c loc n B (λxs z=>by rw[q] at z;cases z)] at P
   exact P.elim
  |some o=>
   cases o with
   |lst xs=>obtain⟨vs,h1,_⟩:=U.ob n _ q;exact⟨_,rfl,.inl ⟨⟨vs,dO.of h1⟩,Y (db.ref hn) F U (L.ext F) P⟩⟩
   |_=>
    rw[c loc n B (λxs z=>by rw[q] at z;cases z)] at P
    exact P.elim
 |_=>cases I
theorem xo{k:Loc->Src->M D}{Q:VK}(h:tE X.K (λloc=>bg (run g s' loc) λd=>bg (fe<|eQ true d) λs=>k loc s) W H Q)
  (I:∀{J:It}{s:Src}{G G1:Nat->Addr}{st st1:aU}{loc:Loc}{H1:Hp},db X.K J s H1 G1 st1.length->Ext H H1 G G1 st.length st1.length->Sim X.K H1 G1 st1->LRel X.K H1 G1 st1.length loc W->cv X.K H G st (k loc s st1) Q->RR J H1):
  zh (ud (tE X.K<|run g s') xk) W H RR:=by
 obtain⟨G,st,loc,S,L,P⟩:=h;obtain⟨d,st1,Y,P⟩:=aT P;obtain⟨s,B,U,P⟩:=aT P;obtain⟨c,rfl⟩:=bR U;refine bj S L Y λH1 G1 v z Z F=>?_;cases F with
 |int j=>
  simp only[eQ] at c;split at c
  .rename_i hj;cases c;exact⟨j,rfl,by omega,by omega,I db.rng z Z (L.ext z) P⟩
  .cases c
 |_=>cases c
theorem qP(h:∀xs,st[n]?≠some (.lst xs)):nxt (.at n) i st=none:=by
 unfold nxt;show(match st[n]? with|some (.lst xs)=>some xs[i]?|_=>none)=none
 cases q:st[n]? with
 |none=>rfl
 |some o=>
  cases o with
  |lst xs=>exact absurd q<|h xs
  |_=>rfl
theorem wx{f:D->M (Option D)}(n:Nat)(st:aU)(h:∀xs,st[n]?≠some (.lst xs)):cY f (.at n) st=.bad:=by
 unfold cY;split
 .simp only[bg,eL,qP h]
 .rfl
def gU(g:eX)(X:Cx)(xs:List Str)(tg iter:Expr)(ifs:List Expr)(elt:Expr)(scope:Scope)(z:Ex):Prop:=
 ∃wi gg tc te,PI X tg iter wi/\(∀fp s H,PG (bz X xs scope fp s H) tg gg)/\(∀fp s H,zv (bz X xs scope fp s H) ifs tc)/\(∀fp s H,PE (bz X xs scope fp s H) elt te)/\(∀v,foldedSetIterable iter X.env v=pure v)/\∀W H Q,tE X.K (run g z) W H Q->qu xs.length wi gg tc te W H Q
theorem gU.pe(C:Ctx T g X sc N)(B:T.calm=true)(F:dw sc scope N xs=true)(h:gU g X xs tg iter ifs elt scope z):PE X (.ListComp elt [⟨tg,iter,ifs,0⟩] scope pos) (tE X.K<|run g z):=by obtain⟨H,J,I,te,a,b,c,d,e,f⟩:=h;exact(mr (C.calm B) (et C F).1 a b c d e).imp f
theorem gU.ps{nm:Str}{pn spos:Pos}(C:Ctx T g X sc N)(B:T.calm=true)(Y:dw sc scope N xs=true)(h:gU g X xs tg iter ifs elt scope z)(F:X.N[i]? =some nm)(J:L2.Loc X.env.scope nm)(U:X.fn nm=true∨X.env.scope.names.lookup nm=some .local):
  PS X (.Assign [.Name nm pn] (.ListComp elt [⟨tg,iter,ifs,0⟩] scope pos) spos) (ue (tE X.K<|run g z)<|gO i):=by
 obtain⟨Z,gg,tc,te,a,b,c,d,e,f⟩:=h;exact λpins s W H D I q=>pB (C.calm B) (et C Y).1 (by rw[C.n];exact C.nd) a b c d e F J U pins s W H D I<|f _ _ _ q
end
theorem oT{T:Tab}{x:Ex}(h:cE T n sc N b=some x)(op:CmpOp):behindInMarks op b=false:=by
 cases n with
 |zero=>cases h
 |succ n=>cases b<;>first|rfl|cases h
theorem m8{T:Tab}{x:Ex}(h:cE T n sc N b=some x)(env:Env)(v:Value):foldedSetIterable b env v=pure v:=by
 cases n with
 |zero=>cases h
 |succ n=>cases b<;>first|rfl|cases h
theorem ck{T:Tab}{x:Ex}(h:cE T n sc N b=some x)(es:List Expr)(env:Env):starEach (b::es) env=(false,eval b env)::starEach es env:=by
 cases n with
 |zero=>cases h
 |succ n=>cases b<;>first|rfl|cases h
section
variable{T:Tab}{g:eX}{X:Cx}{sc scope:Scope}{N xs:List Str}
theorem Bi{f:D->M (Option D)}(n:Nat)(st:aU)(h:∀xs,st[n]?≠some (.lst xs)):cY f (.en n) st=.bad:=by
 have c:∀i,nxt (.en n) i st=none:=λi=>by
  unfold nxt;show(match st[n]? with|some (.lst xs)=>some (xs[i]?.map λx=>D.tup [.int (i:Int),x])|_=>none)=none
  cases q:st[n]? with
  |none=>rfl
  |some o=>
   cases o with
   |lst xs=>exact absurd q<|h xs
   |_=>rfl
 unfold cY;split
 .simp only[bg,eL,c]
 .rfl
theorem zX{k:Loc->Src->M D}{Q:VK}(h:tE X.K (λloc=>bg (run g a' loc) λd=>bg (fe<|rG d) λs=>k loc s) W H Q)
  (hk:∀{J:It}{s:Src}{G G1:Nat->Addr}{st st1:aU}{loc:Loc}{H1:Hp},eA X.K J s H1 G1 st1.length->Ext H H1 G G1 st.length st1.length->Sim X.K H1 G1 st1->LRel X.K H1 G1 st1.length loc W->cv X.K H G st (k loc s st1) Q->RR J H1)
  (c:∀loc n st,(∀xs,st[n]?≠some (.lst xs))->k loc (.en n) st=.bad):vL X.K (ud (tE X.K<|run g a') xk) W H RR:=by
 obtain⟨G,st,loc,S,L,P⟩:=h;obtain⟨d,st1,e1,P⟩:=aT P;obtain⟨s,B,e2,P⟩:=aT P;obtain⟨U,rfl⟩:=bR e2;refine bj S L e1 λH1 G1 v F Y Z=>?_;have I:=Z;cases Z with
 |tup h r=>cases U;exact⟨_,rfl,.inr ⟨⟨_,h⟩,hk (eA.enT I) F Y (L.ext F) P⟩⟩
 | @ref n hn=>
  cases U;cases q:B[n]? with
  |none=>rw[c loc n B (λxs z=>by rw[q] at z;cases z)] at P;exact P.elim
  |some o=>
   cases o with
   |lst xs=>obtain⟨vs,h1,_⟩:=Y.ob n _ q;exact⟨_,rfl,.inl ⟨⟨vs,dO.of h1⟩,hk (eA.en hn) F Y (L.ext F) P⟩⟩
   |_=>rw[c loc n B (λxs z=>by rw[q] at z;cases z)] at P;exact P.elim
 |_=>cases U
def gk(K:aF)(two:Bool):TG:=if two then Dj K 2 (rp (gO 0)<|rp (gO 1) Bc) else gO 0
def DU(K:aF)(g:eX)(c':Ex)(ht:Bool):TT:=if ht then tT K (run g c') else B8
theorem m9{α β:Type}{m:M α}{f:α->M β}{b:β}(e:bg m f st=.ok b st1):∃a c,m st=.ok a c/\f a c=.ok b st1:=by
 unfold bg at e;cases q:m st with
 |ok a c=>rw[q] at e;exact⟨a,c,rfl,e⟩
 |bad=>rw[q] at e;cases e
theorem lg{o:Option D}{Q:Option V->Hp->Prop}{ht:Bool}(S:Sim X.K H G st)(L:LRel X.K H G st.length loc W)(k:∀H1 G1 w,Ext H H1 G G1 st.length st1.length->Sim X.K H1 G1 st1->(match o,w with|some y,some z=>VRel X.K H1 G1 st1.length y z|none,none=>True|_,_=>False)->Q w H1)
  (F:bg (if ht then bg (run g c' loc) λz=>fe (iK z) else ret true) (λk=>if k then bg (run g e' loc) λy=>ret (some y) else ret none) st=.ok o st1):DU X.K g c' ht W H λb I=>if b=true then tE X.K (run g e') W I λy H4=>Q (some y) H4 else Q none I:=by
 obtain⟨b,B,e1,F⟩:=m9 F
 have c:∀{J:Hp}{G2:Nat->Addr},b=true->Ext H J G G2 st.length B.length->Sim X.K J G2 B->tE X.K (run g e') W J λy H4=>Q (some y) H4:=λ{J G2} hb E2 S2=>by subst hb;obtain⟨y,U,Z,Y⟩:=m9 F;cases Y;exact bj S2 (L.ext E2) Z λI G5 w E5 S5 r5=>k I G5 (some w) (E2.trans E5) S5 r5
 cases ht with
 |false=>cases e1;exact Eq.mpr (if_pos (e:=Q none H) (rfl:true=true))<|c rfl (Ext.refl _ _ _) S
 |true=>
  obtain⟨z,U,Z,Y⟩:=m9 e1;obtain⟨e4,rfl⟩:=bR Y;have:=cg e4;subst this;show tT X.K (run g c') W H _;refine jk S L Z λH1 G1 E1 S1=>?_;cases b with
  |true=>rw[if_pos rfl];exact c rfl E1 S1
  |false=>rw[if_neg aQ];cases F;exact k H1 G1 none E1 S1 True.intro
theorem iI{H1:Hp}{G1:Nat->Addr}{ht two:Bool}(L:LRel X.K H1 G1 st1.length loc W):
  EltG X.K (λv H' K=>∀os:List (Option V),os.length=(if two then 2 else 1)->gk X.K two v (os++W) H' λW2 H3=>(∃ps:List (Option V),ps.length=(if two then 2 else 1)/\W2=ps++W)/\DU X.K g c' ht W2 H3 λb J=>if b=true then tE X.K (run g e') W2 J λy H4=>K (some y) H4 else K none J) (eF (run g c') (run g e') ht two loc) H1 G1 st1.length:=⟨by
 intro H2 G2 st3 Z z v o K U I rv H k os F;obtain⟨ds,Y,B,H⟩:=m9 H;cases two with
 |false=>cases B;obtain⟨o1,rfl⟩:=List.length_eq_one_iff.mp F;exact⟨⟨[some v],rfl,rfl⟩,lg I ((L.ext U).cons rv) k H⟩
 |true=>
  cases rv with
  | @tup _ _ vs hq rr=>
   rename_i xs;by_cases hl:xs.length=2
   .simp only[own,if_pos hl,ret] at B;cases B;rcases ds with _|⟨a,_|⟨b,_|⟨c,r⟩⟩⟩<;>first|(simp at hl;done)|skip
    rcases os with _|⟨o1,_|⟨o2,_|⟨o3,r⟩⟩⟩<;>first|(simp at F;done)|skip
    cases rr with
    |cons ra rr=>
     cases rr with
     |cons rb rr=>cases rr;exact⟨_,_,rfl,hq,rfl,_,_,rfl,_,_,rfl,rfl,⟨[_,_],rfl,rfl⟩,lg I (((L.ext U).cons rb).cons ra) k H⟩
   .simp only[own,if_neg hl] at B;cases B
  |_=>cases B⟩
theorem ph{two:Bool}(C:Ctx T g X sc N)(B:T.calm=true)(J:dw sc scope N xs=true)(h:BM t=some (two,xs)):xs.length=(if two then 2 else 1)/\∀fp s H,PG (bz X xs scope fp s H) t (gk X.K two):=by
 obtain⟨h1,nd,F,_⟩:=et C J;rcases n4 h with⟨x,hx,h⟩|⟨_,h⟩
 .cases h;obtain⟨_,rfl⟩:=fo hx;refine⟨rfl,λfp s H=>?_⟩;obtain⟨a,b⟩:=mw (X:=X) (xs:=[x]) (F x (by simp)).1 fp s H
  exact eG (X:=bz X [x] scope fp s H) (i:=0) nd rfl a b
 .obtain⟨z,I,h⟩:=map_some h;cases h;obtain⟨_,_,_,_,rfl⟩:=gJ I;refine⟨rfl,λfp s H=>?_⟩;obtain⟨a,b⟩:=mw (X:=X) (xs:=[z.1,z.2]) (F z.1 (by simp)).1 fp s H
  obtain⟨c,d⟩:=mw (X:=X) (xs:=[z.1,z.2]) (F z.2 (by simp)).1 fp s H
  exact Aw (X:=bz X [z.1,z.2] scope fp s H) (C.calm B)<|j5 (eG (i:=0) nd rfl a b)<|j5 (eG (i:=1) nd rfl c d) qL
theorem yF(C:Ctx T g X sc N)(U:T.calm=true)(hc:dw sc scope N [x]=true)(J:x_ t=some x)(hr:Ai sc it=some (a,b))(ha:PE X a (tE X.K<|run g a'))(hb:PE X b (tE X.K<|run g b'))
  (F:starEach [a,b] X.env=(false,eval a X.env)::starEach [b] X.env)(z:starEach [b] X.env=[(false,eval b X.env)])(I:∀fp s H,zv (bz X [x] scope fp s H) [c]<|DU X.K g c' true)(he:∀fp s H,PE (bz X [x] scope fp s H) elt<|tE X.K<|run g e'):gU g X [x] t it [c] elt scope (.compR a' b' c' e'):=by
 obtain⟨hx,hg⟩:=ph C U hc (show BM t=some (false,[x]) by unfold BM;rw[J];rfl)
 obtain⟨hq,p,q,rfl⟩:=uL hr
 have gl:Gl X "range":=by show X.env.scope.names.lookup _=some .globalImplicit;rw[C.sc];simpa[bH] using hq
 unfold gU;refine⟨_,_,_,_,sC gl (C.blt _ (by decide+kernel)) (b_ ha (b_ hb dG z) F) (by rw[F,z]) z,hg,I,he,λ_=>rfl,λW H Q hp=>?_⟩
 obtain⟨G,st,loc,S,L,P⟩:=hp;obtain⟨d,st1,e1,P⟩:=aT P;obtain⟨d2,st2,e2,P⟩:=aT P;obtain⟨s,st3,e3,P⟩:=aT P;obtain⟨B,rfl⟩:=bR e3;refine bj S L e1 λH1 G1 v Y S1 r1=>bj S1 (L.ext Y) e2 λH2 G2 v2 Z S2 r2=>?_;unfold jA at B;split at B
 .split at B
  .rename_i hj;cases B;cases r1;cases r2;exact⟨_,_,rfl,⟨by omega,by omega,by omega,by omega⟩,gA (iI (two:=false)<|L.ext<|Y.trans Z) (wv db.rng2) (Y.trans Z) S2 P⟩
  .cases B
 .cases B
theorem we{two ht:Bool}(C:Ctx T g X sc N)(hcm:T.calm=true)(hc:dw sc scope N xs=true)(Y:BM t=some (two,xs))(B:two=false->(jX sc it).1.isEn=false)(hs:PE X (jX sc it).2 (tE X.K<|run g s'))(c:starEach [(jX sc it).2] X.env=[(false,eval (jX sc it).2 X.env)])(I:∀v,foldedSetIterable (jX sc it).2 X.env v=pure v)
  (U:∀fp s H,zv (bz X xs scope fp s H) ifs<|DU X.K g c' ht)(he:∀fp s H,PE (bz X xs scope fp s H) elt<|tE X.K<|run g e'):gU g X xs t it ifs elt scope (.comp (jX sc it).1 two s' c' ht e'):=by
 obtain⟨hx,hg⟩:=ph C hcm hc Y
 have gl:∀{f:Str},bH sc f=true->Gl X f:=λZ=>by show X.env.scope.names.lookup _=some .globalImplicit;rw[C.sc];simpa[bH] using Z
 unfold gU;rw[hx];unfold jX at hs c I B ⊢;cases hr:xD sc it with
 |some a=>
  rw[hr] at hs c I B;obtain⟨Z,p,q,rfl⟩:=nT hr;refine⟨_,_,_,_,lA (gl Z) (C.blt _ (by decide+kernel)) (b_ hs dG c) c,hg,U,he,λ_=>rfl,λW H Q hp=>?_⟩
  obtain⟨G,st,loc,S,L,P⟩:=hp;exact xo (k:=λloc s=>cY (eF (run g c') (run g e') ht two loc) s) (Q:=Q) ⟨G,st,loc,S,L,P⟩<|λ{J s G G1 st st1 loc H1} F E S1 L1 P1=>gA (iI L1) (wv F) E S1 P1
 |none=>
  rw[hr] at hs c I B;cases hn:vt "enumerate" sc it with
  |some a=>
   dsimp only[elim] at hs c I B;rw[hn] at hs c I B;obtain⟨Z,p,q,rfl⟩:=j_ hn;cases two with
   |false=>cases B rfl
   |true=>
    rcases n4 Y with⟨x,_,h⟩|⟨_,h⟩
    .cases h
    .obtain⟨z,hz,h⟩:=map_some h;obtain⟨_,_,_,_,rfl⟩:=gJ hz;refine⟨_,_,_,_,nW (gl Z) (C.blt _ (by decide+kernel)) (b_ hs dG c) c,hg,U,he,λ_=>rfl,λW H Q hp=>?_⟩
     obtain⟨G,st,loc,S,L,P⟩:=hp;exact zX (k:=λloc s=>cY (eF (run g c') (run g e') ht true loc) s) (Q:=Q) ⟨G,st,loc,S,L,P⟩ (λ{J s G G1 st st1 loc H1} F E S1 L1 P1=>gA (iI L1) F E S1 P1)<|λ_=>Bi
  |none=>dsimp only[elim] at hs c I B;rw[hn] at hs c I B;refine⟨_,_,_,_,vc hs,hg,U,he,I,λW H Q hp=>?_⟩;obtain⟨G,st,loc,S,L,P⟩:=hp;exact xn (k:=λloc s=>cY (eF (run g c') (run g e') ht two loc) s) (Q:=Q) ⟨G,st,loc,S,L,P⟩ (λ{J s G G1 st st1 loc H1} F E S1 L1 P1=>gA (iI L1) (wv F) E S1 P1)<|λ_=>wx
end
end Ev
set_option maxHeartbeats 4000000
namespace L2
open PySem PySem.Spec PyProof.Rows
section
end
section
variable{X:Cx}{pos:Pos}
def Dk(K:aF)(n:Nat)(t:wT):TG:=λv W H Q=>∃a xs,v=.ref a/\fP K H a xs/\xs.length=n/\t xs W H Q
theorem ve{es:List Expr}{k:Nat}{t:wT}{n:Nat}(U:X.calm=true)(h:BS X es t)
  (F:(assignEach es X.env).length=n)(c:(assignEach es X.env).findIdx? (·.1)=none):PG X (.Tuple es k pos) (Dk X.K n t):=by
 intro pins s W H v u Q I r hw;obtain⟨a,xs,Y,B,J,hw⟩:=hw;subst Y;cases r;obtain⟨its,rv,ht,hz⟩:=I.tuple B;refine assign_Tuple_tuple (I.ok.hd U) ht (by simp[F,<-J,rv.length]) c λh' z=>?_
 have Z:Inv X pins W H {s with heap:=h'}:=I.kept (t':=s.toks) λb o e=>z b o (aw<|au e) e;exact h pins _ W H xs _ Q Z (by simpa using rv) hw
end
theorem nH{k:Key}:∀{xs:List (Key×V)}{p:Key×V},eZ xs k=none->¬p.1=k->eZ (xs++[p]) k=none
 |[],p,_,h=>by rw[nil_append,dU h];rfl
 |q::xs,p,h,hp=>by
  by_cases e:q.1=k
  .rw[fS e] at h;cases h
  .rw[dU e] at h;rw[cons_append,dU e];exact nH h hp
theorem jl:∀(more kvs:List (Key×V)),(more.map (·.1)).Nodup->(∀k∈more.map (·.1),eZ kvs k=none)->fY kvs more=kvs++more
 |[],kvs,_,_=>by show kvs=kvs++[];simp
 |p::r,kvs,hn,hd=>by
  rw[map_cons,nodup_cons] at hn;show fY (putK kvs p.1 p.2) r=_;rw[uU p.2<|hd p.1 (by simp),jl r (kvs++[(p.1,p.2)]) hn.2 λk c=>?_]
  .simp
  .refine nH (hd k (by simp[mem_map] at c ⊢;exact .inr c)) λe=>hn.1 (by rw[show p.1=k from e];exact c)
end L2
namespace PySem.W
open PySem PySem.Calls PyProof.Rows Tab23
end PySem.W
namespace L2
open PySem PySem.Spec PyProof.Rows Tab23
end L2
set_option maxHeartbeats 8000000
namespace Ev
open PySem PySem.Spec PyProof.Rows L2
variable{G:Nat->Addr}{H:Hp}{c f m t x:Str}{a o:Expr}{ap cp p3:Pos}{a' o':Ex}{xs:List Ex}
theorem DRels.zip{K:aF}{m:Nat}:∀{ks:List Key}{ds:List D}{vs:List V},VRels K H G m ds vs->DRels K H G m (ks.zip ds) (ks.zip vs)
 |[],_,_,_=>.nil
 |_::_,_,_,.nil=>.nil
 |_::_,_,_,.cons h t=>.cons h<|DRels.zip t
section
variable{T:Tab}{g:eX}{X:Cx}{sc:Scope}{N:List Str}{pos:Pos}
theorem iG(C:Ctx T g X sc N)(h:bH sc x=true):Gl X x:=by show X.env.scope.names.lookup _=some .globalImplicit;rw[C.sc];simpa[bH] using h
theorem dN(c:fu o=true)(m:Str)(env:Env):attributeBase o m env (eval o env)=eval o env:=by obtain⟨⟨_,q⟩,_⟩:=isSome_iff_exists.mp c;exact q m env
theorem Bn{kp:Pos}{k:Nat}(I:oj m=true)(hl:(ap.endLine==cp.line)=true)(hb:attributeBase o m X.env (eval o X.env)=eval o X.env)(ho:PE X o (tE X.K<|run g o')):
  PE X (.Call (.Attribute o m ap) [.Constant (.int 0) k kp] [] cp) (tE X.K<|run g<|.pop o' true):=by
 have I:m= "pop":=by simpa[oj] using I
 subst I;refine(y_ PySem.F.plainAttrs_list PySem.F.slot_list_pop PySem.F.type_list_pop vv ho (b_ g_ dG rfl) hb rfl hl rfl rfl).imp λW H Q hp=>?_;obtain⟨G,st,loc,S,L,P⟩:=hp;obtain⟨x,st1,e1,P⟩:=aT P;refine bj S L e1 λH1 G1 v E1 S1 r1=>?_;unfold u9 at P;split at P
 .rename_i n;split at P
  .rename_i xs q;split at P
   .rename_i y J;cases r1 with
    |ref hn=>
     obtain⟨vs,Z,Y⟩:=S1.ob _ _ q;rw[if_pos rfl] at J P;obtain⟨u,U,ru⟩:=Y.get J;have c:0<vs.length:=(aq U).1;have hd:=Y.drop 1;obtain⟨E4,S4⟩:=S1.write q hd;have B:Ext H1 (upd H1 (G1 n)<|.lst<|vs.drop 1) G1 G1 st1.length (st1.set n<|O.lst<|xs.drop 1).length:=by rw[aA];exact E4
     refine⟨.inl ⟨rfl,vs,dO.of Z⟩,_,vs,0,0,u,rfl,rfl,Z,by decide,by decide,?_,U,?_⟩
     .simp[seqIndex?,c]
     .have z:=P _ G1 _ (E1.trans B) S4<|ru.ext B;rw[List.drop_one] at z;rw[List.eraseIdx_zero];exact z
   .exact P.elim
  .exact P.elim
 .exact P.elim
theorem VRels.dropLast{K:aF}{m:Nat}{ds:List D}{vs:List V}(r:VRels K H G m ds vs):VRels K H G m ds.dropLast vs.dropLast:=by rw[List.dropLast_eq_take,List.dropLast_eq_take,<-r.length];exact r.take _
theorem Bm(z:oj m=true)(hl:(ap.endLine==cp.line)=true)(hb:attributeBase o m X.env (eval o X.env)=eval o X.env)(ho:PE X o (tE X.K<|run g o')):
  PE X (.Call (.Attribute o m ap) [] [] cp) (tE X.K<|run g<|.pop o' false):=by
 have z:m= "pop":=by simpa[oj] using z
 subst z;refine(AF PySem.F.plainAttrs_list PySem.F.slot_list_pop PySem.F.type_list_pop AR ho hb hl).imp λW H Q hp=>?_;obtain⟨G,st,loc,S,L,P⟩:=hp;obtain⟨x,st1,e1,P⟩:=aT P;refine bj S L e1 λH1 G1 v E1 U Z=>?_;unfold u9 at P;split at P
 .rename_i n;split at P
  .rename_i xs q;split at P
   .rename_i y I;rw[if_neg (by decide)] at I P
    cases Z with
    |ref hn=>
     obtain⟨vs,J,B⟩:=U.ob _ _ q;obtain⟨u,hu,Y⟩:=B.get I;obtain⟨E4,S4⟩:=U.write q B.dropLast;have c:Ext H1 (upd H1 (G1 n)<|.lst vs.dropLast) G1 G1 st1.length (st1.set n<|O.lst xs.dropLast).length:=by rw[aA];exact E4
     exact⟨.inl ⟨rfl,vs,dO.of J⟩,_,vs,u,rfl,rfl,J,by rw[<-B.length];exact hu,P _ G1 _ (E1.trans c) S4<|Y.ext c⟩
   .exact P.elim
  .exact P.elim
 .exact P.elim
def SD(T:Tab)(g:eX)(n:Nat):Prop:=∀{X:Cx}{sc:Scope}{N:List Str}{es:List Expr}{xs:List Ex}{ks:List Key}{keys:List (Option Expr)}(pos:Pos),Ctx T g X sc N->tH T n sc N es=some xs->rK keys=some ks->ks.length=es.length->
 ∃trs,DO X pos keys es trs/\keys.length=es.length/\keys.all (·.isSome)=true/\∀{W:L2.St}{H:Hp}{G:Nat->Addr}{st:aU}{loc:Loc}{ds:List D}{st1:aU}{Q:List (V×V)->Hp->Prop},Sim X.K H G st->LRel X.K H G st.length loc W->runs g xs loc st=.ok ds st1->
  (∀H1 G1 vs,Ext H H1 G G1 st.length st1.length->Sim X.K H1 G1 st1->VRels X.K H1 G1 st1.length ds vs->Q ((ks.zip vs).map λp=>(kV p.1,p.2)) H1)->md trs W H Q
theorem xy{n:Nat}(h:∀{X:Cx}{sc:Scope}{N:List Str}{e:Expr}{x:Ex},Ctx T g X sc N->cE T n sc N e=some x->PE X e (tE X.K<|run g x))(hs:SD T g n):SD T g (n+1):=by
 intro X sc N es xs ks keys pos C e z I;cases keys with
 |nil=>
  cases z;cases es with
  |cons=>cases I
  |nil=>
   cases e;exact⟨[],xM,rfl,rfl,λ{W H G st loc ds st1 Q} S L c k=>by rw[runs] at c;cases c;exact k H G [] (Ext.refl _ _ _) S .nil⟩
 |cons k r=>
  obtain⟨kk,h0,z⟩:=bs z;obtain⟨ks2,hq,rfl⟩:=map_some z;obtain⟨c0,p0,q0,rfl,J⟩:=ui h0
  have F:PE X (.Constant c0 p0 q0) (tC<|kV kk):=by
   rcases J with⟨x0,rfl,rfl⟩|⟨i0,rfl,rfl⟩
   .exact vf
   .exact g_
  cases es with
  |nil=>cases I
  |cons a0 as0=>
   obtain⟨e',e2,e⟩:=bs e;obtain⟨r',B,rfl⟩:=map_some e;obtain⟨Z,h1,h2,h3,h4⟩:=hs pos C B hq (by simpa using I)
   refine⟨_,u8 F (h C e2) h1,by simp[h2],by simp[h3],λ{W H G st loc ds st1 Q} S L c k=>?_⟩
   rw[runs] at c;unfold bg at c;cases e5:run g e' loc st with
   |bad=>rw[e5] at c;cases c
   |ok d st2=>
    rw[e5] at c;simp only[bg] at c;cases e6:runs g r' loc st2 with
    |bad=>rw[e6] at c;cases c
    |ok ds2 st3=>rw[e6] at c;cases c;show tE X.K (run g e') W H _;exact bj S L e5 λH1 G1 v Y S1 r1=>h4 S1 (L.ext Y) e6 λH2 G2 vs U S2 B=>k H2 G2 (v::vs) (Y.trans U) S2<|.cons (r1.ext U) B
theorem Br{n:Nat}{k:Option Expr}{ks:List (Option Expr)}{es:List Expr}{c:List Key}(hs:SD T g n)(C:Ctx T g X sc N)(hk:rK (k::ks)=some c)(he:tH T n sc N es=some xs)(hl:c.length=es.length)(h15:c.length<=15)(B:c.Nodup):
  PE X (.Dict (k::ks) es pos) (tE X.K<|run g<|.dict c xs):=by
 obtain⟨trs,h1,h2,h3,h4⟩:=hs pos C he hk hl;refine(xS h1 h3 h2 (by simp) (by rw[h2,<-hl];exact h15)).imp λW H Q F=>?_
 obtain⟨G,st,loc,S,L,P⟩:=F;intro p F;obtain⟨ds,st1,e1,P⟩:=aT P;have E0:Ext H (upd H p<|.dK []) G G st.length st.length:=⟨⟨aa _,λ_ _=>rfl,λb ys e=>by rw[aI<|aN e F];exact e,λb I u e=>by rw[aI<|aN e F];exact e⟩,λb I e k=>⟨by rw[aI<|aN e F];exact e,k⟩⟩
 have Y:∀n,n<st.length->G n≠p:=λn B=>by obtain⟨_,h,_⟩:=S.obj B;exact aN h F
 have S0:Sim X.K (upd H p<|.dK []) G st:=by refine⟨S.inj,λn o e=>?_⟩;have B:n<st.length:=(aq e).1;have old:=S.ob n o e;exact old.move E0.toExt0<|aI<|Y n B
 refine h4 S0 (L.ext E0) e1 λH1 G1 vs E1 S1 r1=>?_;obtain⟨J,ap1⟩:=E1.fr p _ bf Y;have lv:=r1.length;unfold allocK at P;split at P
 .rename_i hkd;refine⟨J,c.zip vs,rfl,by simp;omega,?_⟩
  .have hmk:fY [] (c.zip vs)=c.zip vs:=by
    rw[jl _ [] ?_<|λk _=>rfl,nil_append];rw[List.map_fst_zip (by omega)]
    exact B
   rw[hmk];generalize hkv:c.zip vs=kvs;have Z:Ext0 H1 (upd H1 p<|.dK kvs) G1 G1 st1.length st1.length:=⟨aa _,λ_ _=>rfl,λb ys e=>by rw[aI<|cm e J (by intro z;cases z)];exact e,λb I u e=>by rw[aI<|cm e J (by intro z;cases z)];exact e⟩
   have S2:Sim X.K (upd H1 p<|.dK kvs) G1 st1:=by refine⟨S1.inj,λn o e=>?_⟩;have B:n<st1.length:=(aq e).1;have old:=S1.ob n o e;exact old.move Z<|aI<|ap1 n B
   have rd:DRels X.K (upd H1 p<|.dK kvs) G1 st1.length (c.zip ds) kvs:=by have q:=DRels.zip (ks:=c)<|VRels.ext0 Z r1;rw[hkv] at q;exact q
   obtain⟨G',g1,g2,g3⟩:=S2.addD bf ap1 rd;have l:(st1++[O.dct<|c.zip ds]).length=st1.length+1:=by simp
   refine P _ G' (.ref p) ?_ g3 ?_
   .rw[l];have U:=E0.trans E1;refine⟨⟨Nat.le_succ_of_le U.le,λn B=>(g1 n<|ao B U.le).trans<|U.ad n B,λb ys e=>Z.tp b ys<|U.tp b ys e,λb I u e=>Z.fz b I u<|U.fz b I u e⟩,λb I e k=>?_⟩;obtain⟨g4,g5⟩:=U.fr b I e k;refine⟨by rw[aI<|aN e F];exact g4,λn B=>?_⟩
    by_cases hn':n=st1.length
    .rw[hn',g2];exact(aN e F).symm
    .rw[g1 n (by omega)];exact g5 n (by omega)
   .rw[<-g2,l];exact .ref<|aJ _
 .exact P.elim
end
section
variable{T:Tab}{g:eX}{X:Cx}{sc:Scope}{N:List Str}{pos p2:Pos}
theorem FRels.look_none{K:aF}{m:Nat}{ds:List (Str×D)}{vs:List (Str×V)}(h:FRels K H G m ds vs)(e:ds.lookup f=none):vs.lookup f=none:=by
 induction h with
 |nil=>rfl
 | @cons k d' v ds vs h t ih=>
  rw[lookup_cons] at e ⊢;cases q:f==k with
  |true=>rw[q] at e;cases e
  |false=>rw[q] at e;exact ih e
theorem qU(h:c∈T.ics f):∃z∈T.icl,z.x=c/\f∈z.flds:=by obtain⟨p,B,rfl⟩:=mem_map.mp h;obtain⟨h1,h2⟩:=mem_filter.mp B;exact⟨p,h1,rfl,List.contains_iff_mem.mp h2⟩
theorem ye{j:Nat}(h:(T.ims m).lookup c=some j):∃z∈T.icl,z.x=c/\(m,j)∈z.mts:=by
 obtain⟨z,h1,h2⟩:=mem_filterMap.mp<|aL h;cases q:z.mts.lookup m with
 |none=>rw[q] at h2;cases h2
 |some i=>rw[q] at h2;cases h2;exact⟨z,h1,rfl,aL q⟩
theorem Dv(C:Ctx T g X sc N)(hb:attributeBase o f X.env (eval o X.env)=eval o X.env)(ho:PE X o (tE X.K<|run g o')):PE X (.Attribute o f pos) (tE X.K<|run g<|.fld o' f []<|T.ics f):=by
 refine(AE ho hb).imp λW H Q Z=>?_;obtain⟨G,st,loc,S,L,P⟩:=Z;obtain⟨x,st1,e1,P⟩:=aT P;unfold Bf at P;split at P
 .rename_i n;split at P
  .rename_i c fs q;split at P
   .rename_i d hl;split at P
    .rename_i hc;obtain⟨Y,hi,rfl,hf⟩:=qU hc;obtain⟨C0,J,cl,na,_⟩:=C.icl Y hi;refine bj S L e1 λH1 G1 v E1 F I=>?_;cases I with
     |ref hn=>obtain⟨C1,dx,vs,B,h1,h2,_⟩:=F.ob n _ q;rw[J] at B;cases B;obtain⟨w,U,z⟩:=h2.look hl;exact⟨_,C0,dx,vs,w,rfl,h1,cl,na f hf,U,(P.mono E1).same F z⟩
    .exact P.elim
   .exact P.elim
  .exact P.elim
 .exact P.elim
theorem Sim.aside{K:aF}{st:aU}(S:Sim K H G st){p:Addr}(c:H p=none)(ho:HO):Ext H (upd H p ho) G G st.length st.length/\Sim K (upd H p ho) G st:=by
 have E:Ext H (upd H p ho) G G st.length st.length:=⟨⟨aa _,λ_ _=>rfl,λb xs e=>by rw[aI<|aN e c];exact e,λb z u e=>by rw[aI<|aN e c];exact e⟩,λb z e k=>⟨by rw[aI<|aN e c];exact e,k⟩⟩
 exact⟨E,S.inj,λn o e=>(S.ob n o e).move E.toExt0<|aI (by obtain⟨_,h,_⟩:=S.obj (aq e).1;exact aN h c)⟩
theorem Dp{j:Nat}{as:List Expr}(C:Ctx T g X sc N)(hg:bH sc x=true)(hi:T.mks.lookup x=some j)(ha:PA X (a::as) (tA X.K<|runs g xs))
  (he:starEach (a::as) X.env=(false,eval a X.env)::starEach as X.env)(J:(backTo pos<|starEach as X.env).any (·.1)=false):PE X (.Call (.Name x p2) (a::as) [] pos) (tE X.K<|run g<|.new x j xs):=by
 obtain⟨hd,C0,ad,fd,ps,k,hn,hm,mk,hb,hr,Z,F⟩:=C.mks x j (aL hi);refine(xQ mk F hr (iG C hg) hm hb .nil za ha hd he J).imp λW H Q hp=>?_;obtain⟨G,st,loc,S,L,P⟩:=hp;obtain⟨ds,st1,e1,P⟩:=aT P;refine jT S L e1 λH1 G1 vs E1 S1 r1 c dx hx Y U=>?_;rw[append_nil];unfold vw at P;obtain⟨r,B,e2,P⟩:=aT P;obtain⟨E2,S2⟩:=S1.aside Y<|.own c;have I:upd H1 dx (.own c) c=none:=by rw[aI U.symm];exact hx
 obtain⟨G2,E3,e3,S3⟩:=S2.laid (o:= .ins x []) (ho:= .ins C0 dx []) I<|λG' h1 h2=>⟨C0,dx,[],hn,bf,.nil,by decide⟩
 have l:(st1++[O.ins x []]).length=st1.length+1:=by simp
 have rr:VRels X.K (upd (upd H1 dx<|.own c) c<|.ins C0 dx []) G2 (st1++[O.ins x []]).length (.ref st1.length::ds) (.ref c::vs):=by rw[l];refine .cons ?_<|r1.ext<|E2.trans E3;rw[<-e3];exact .ref<|aJ _
 have z:(V.ref c::vs).length=ps.length:=by
  rw[<-rr.length];by_cases hps:(D.ref st1.length::ds).length=ps.length
  .exact hps
  .rw[Z _ _ hps] at e2;cases e2
 refine⟨z,G2,_,_,S3,rr,?_⟩;rw[e2];cases r with
 |x n=>exact P.elim
 |v d=>
  cases d with
  |non=>
   intro H' G' v E' S' rv;cases rv;have E4:Ext H H' G G' st.length B.length:=((E1.trans E2).trans (by rw[<-l] at E3;exact E3)).trans E'
   refine⟨rfl,P H' G' _ E4 S' ?_⟩;have e4:G' st1.length=c:=(E'.ad _ (by rw[l];exact aJ _)).trans e3
   rw[<-e4];have:=E'.le;rw[l] at this;exact .ref this
  |_=>exact P.elim
theorem qS{t:TA}{x:D}{loc:Loc}{W:L2.St}{H1:Hp}{G1:Nat->Addr}{st st1:aU}{v:V}{Q:VK}(C:Ctx T g X sc N)(S1:Sim X.K H1 G1 st1)(L:LRel X.K H G st.length loc W)(E1:Ext H H1 G G1 st.length st1.length)(Y:VRel X.K H1 G1 st1.length x v)
  (P:cv X.K H G st (bg (qT m (T.ims m) x) (λj=>bg (runs g xs loc) λds=>bg (g j<|x::ds) λr=>fe r.val?) st1) Q)
  (ht:∀Q':List V->Hp->Prop,tA X.K (runs g xs) W H1 Q'->t W H1 Q'):
  ∃a C dx fs f k fd ps sp,v=.ref a/\H1 a=some (.ins C dx fs)/\fs.lookup m=none/\Cls X.K C/\Meth X.K C m f/\FnOk X.prog X.w X.K X.mg X.base (o0 X.prog X.w) k f fd ps sp/\Room k X.A/\Binds X.K fd ps []/\t W H1 λvs J=>∀E:XK,sp (.ref a::vs) J Q E:=by
 obtain⟨j,st2,z,P2⟩:=aT P;obtain⟨ds,B,e3,P3⟩:=aT P2;unfold qT at z;cases x with
 |ref nn=>
  dsimp only at z;split at z
  .rename_i c fs q;split at z
   .rename_i i hl hj;cases z;obtain⟨ic,hi,rfl,hm⟩:=ye hj;obtain⟨C0,n0,cl,na,ms⟩:=C.icl ic hi;obtain⟨a,fd,ps,k,M,hb,hr,I,F⟩:=ms m _ hm;have rr:=Y;cases Y with
    |ref hn=>
     obtain⟨C1,dx,vs,Z,h1,h2,_⟩:=S1.ob nn _ q;rw[n0] at Z;cases Z;refine⟨_,C0,dx,vs,a,k,fd,ps,_,rfl,h1,h2.look_none hl,cl,M,F,hr,hb,ht _<|jT S1 (L.ext E1) e3 λJ G2 ws E2 S2 r2 E=>?_⟩;have U:VRels X.K J G2 B.length (.ref nn::ds) (.ref (G1 nn)::ws):= .cons (rr.ext E2) r2;refine⟨?_,G2,B,_,S2,U,(gT.val P3).mono<|E1.trans E2⟩;rw[<-U.length];by_cases hps:(D.ref nn::ds).length=ps.length
     .exact hps
     .have P4:=gT.val (E:=E) P3;rw[I _ _ hps] at P4;exact P4.elim
   .cases z
  .cases z
 |_=>cases z
theorem Bh{as:List Expr}(c:(backTo pos<|starEach as X.env).any (·.1)=false)(F:as.length<29):methodCallForm (as.length+([]:List Keyword).length) (backTo pos<|starEach as X.env) (backToKw pos<|keywordEach [] X.env)=true:=by
 unfold methodCallForm
 have h1:(backTo pos<|starEach as X.env).all (!·.1)=true:=by
  rw[all_eq_true];intro p z;cases q:p.1 with
  |false=>rfl
  |true=>have:=List.any_eq_false.mp c p z;rw[q] at this;exact absurd rfl this
 rw[h1];have h2:(backToKw pos<|keywordEach [] X.env).all (·.1.isSome)=true:=rfl;have B:(backToKw pos<|keywordEach [] X.env).isEmpty=true:=rfl;rw[h2,B];simp only[Bool.and_self,Bool.true_and,length_nil,Nat.add_zero,if_true,decide_eq_true_eq];omega
theorem Bq{as:List Expr}(C:Ctx T g X sc N)(J:(ap.endLine==pos.line)=true)(F:(a::as).length<29)(Y:attributeBase o m X.env (eval o X.env)=eval o X.env)(ho:PE X o (tE X.K<|run g o'))(Z:PA X (a::as) (tA X.K<|runs g xs))
  (U:starEach (a::as) X.env=(false,eval a X.env)::starEach as X.env)(z:(backTo pos<|starEach as X.env).any (·.1)=false)(c:(backTo pos<|starEach (a::as) X.env).any (·.1)=false):PE X (.Call (.Attribute o m ap) (a::as) [] pos) (tE X.K<|run g<|.meth o' m (T.ims m) xs):=by
 refine(vh ho Y J (Bh c F) Z U z).imp λW H Q I=>?_;obtain⟨G,st,loc,S,L,P⟩:=I;obtain⟨x,st1,e1,P⟩:=aT P;exact bj S L e1 λH1 G1 v E1 S1 B=>qS C S1 L E1 B P λ_ h=>h
theorem yD(C:Ctx T g X sc N)(I:(ap.endLine==pos.line)=true)(J:attributeBase o m X.env (eval o X.env)=eval o X.env)(ho:PE X o (tE X.K<|run g o')):PE X (.Call (.Attribute o m ap) [] [] pos) (tE X.K<|run g<|.meth o' m (T.ims m) []):=by refine(sE ho J I).imp λW H Q F=>?_;obtain⟨G,st,loc,S,L,P⟩:=F;obtain⟨x,st1,U,P⟩:=aT P;refine bj S L U λH1 G1 v E1 Z B=>qS C Z L E1 B P λQ' h=>?_;obtain⟨G2,z,loc2,Y,L2',c⟩:=h;rw[runs] at c;exact c H1 G2 [] (Ext.refl _ _ _) Y .nil
noncomputable def Ty.name:Ty->String
 | .tuple=> "tuple"
 | .int=> "int"
 | .bool=> "bool"
theorem xf{z:Ty}(h:xg.lookup t=some z):bootBuiltins t=some (.type z.name)/\t≠ "__name__" /\(t==("__debug__":Str))=false/\t∈tm:=by
 have c:=aL h;simp only[xg,mem_cons,mem_nil_iff,Prod.mk.injEq,or_false] at c;rcases c with⟨rfl,rfl⟩|⟨rfl,rfl⟩|⟨rfl,rfl⟩<;>exact⟨by decide+kernel,by decide+kernel,by decide+kernel,by decide+kernel⟩
theorem Du{c:Ty}(C:Ctx T g X sc N)(hg:bH sc "isinstance"=true)(F:bH sc t=true)(ht:xg.lookup t=some c)(ha:PE X a (tE X.K<|run g a'))
  (J:starEach [a,.Name t p3] X.env=(false,eval a X.env)::starEach [.Name t p3] X.env):PE X (.Call (.Name "isinstance" p2) [a,.Name t p3] [] pos) (tE X.K<|run g<|.isi a' c):=by
 obtain⟨b1,b2,b3,b4⟩:=xf ht
 have cc:eM X (.builtin "isinstance") (λvs H Q=>∃G m d v k,vs=[v,.ty c.name]/\VRel X.K H G m d v/\A4 c d=some k/\Q (.bl k) H):=by
  intro pins s W H vs us Q I r h;obtain⟨G,m,d,v,k,rfl,rv,e,q⟩:=h;have fin:∀tk,EP X pins W Q (.bool k) {s with toks:=tk}:=λtk=>⟨.bl k,H,I.tok _,rfl,q⟩;have fin0:EP X pins W Q (.bool k) s:=⟨.bl k,H,I,rfl,q⟩;cases r with
  |cons z r2=>
   cases r2 with
   |cons r2 r3=>
    cases r3;cases r2;cases rv with
    |int i=>
     obtain⟨tk,rfl⟩:=z;cases c
     .cases e
     .cases e;exact IsiPair.int_int fin0
     .cases e;exact IsiPair.int_bool<|fin _
    |tup h _=>
     cases z;obtain⟨_,_,⟨o,h1,h2,_⟩,_⟩:=I.tuple h;cases c
     .cases e;exact IsiPair.tuple_tuple h1 h2 fin0
     .cases e
     .cases e
    |_=>cases c<;>cases e
 have B:PE X (.Name t p3) (tC<|.ty c.name):=xV (iG C F) (C.blt t b4) b1 rfl b2 b3;refine(iy cc (iG C hg) (C.blt _ (by decide+kernel)) (by decide+kernel) (b_ ha (b_ B dG) J) (by decide+kernel) (by decide+kernel) J rfl).imp λW H Q Z=>?_
 obtain⟨G,st,loc,S,L,P⟩:=Z;obtain⟨x,st1,e1,P⟩:=aT P;obtain⟨k,Y,e2,U⟩:=aT P;obtain⟨e3,e4⟩:=bR e2;rw[e4] at U;exact bj S L e1 λH1 G1 v E1 S1 z=>⟨G1,_,x,v,k,rfl,z,e3,(U.mono E1).same S1<|.bl k⟩
theorem Dt{tb:List (Str×Bool)}(C:Ctx T g X sc N)(hg:bH sc "isinstance"=true)(B:bH sc t=true)(ht:T.isks.lookup t=some tb)(ha:PE X a (tE X.K<|run g a'))
  (U:starEach [a,.Name t p3] X.env=(false,eval a X.env)::starEach [.Name t p3] X.env):PE X (.Call (.Name "isinstance" p2) [a,.Name t p3] [] pos) (tE X.K<|run g<|.isk a' tb):=by
 obtain⟨F,I,m1,hh⟩:=C.isks t tb (aL ht);refine(iy wC (iG C hg) (C.blt _ (by decide+kernel)) (by decide+kernel) (b_ ha (b_ (xR (v:= .ref I) (iG C B) m1 rfl F) dG) U) (by decide+kernel) (by decide+kernel) U rfl).imp λW H Q hp=>?_
 obtain⟨G,st,loc,S,L,P⟩:=hp;obtain⟨x,st1,e1,z⟩:=aT P;refine bj S L e1 λH1 G1 v E1 Y r1=>?_;unfold A3 at z;split at z
 .rename_i n;split at z
  .rename_i c fs q;split at z
   .rename_i b hb;cases r1 with
    |ref hn=>obtain⟨C1,dx,vs,J,h1,h2,_⟩:=Y.ob n _ q;obtain⟨C2,n0,cl,f1,f2,f3,f4,kk⟩:=hh c b<|aL hb;rw[n0] at J;cases J;exact⟨_,_,dx,vs,.ref I,.ref I,_,rfl,h1,cl,f1,f2,f3,f4,λu Z=>Z,kk,(z.mono E1).same Y<|.bl _⟩
   .exact z.elim
  .exact z.elim
 .exact z.elim
end
end Ev
set_option maxHeartbeats 4000000
namespace L2
open PySem PySem.Spec PyProof.Rows
noncomputable def Fw(o:Obj)(d:Addr)(kvs:List (Key×V)):It:=
 ⟨λi H=>H d=some (.frz o<|.dK kvs)/\∃p,kvs[i]? =some p,
  λi H v H'=>∃a p,v=.ref a/\H a=none/\kvs[i]? =some p/\H'=upd H a (.tup [kV p.1,p.2]),
  λi H=>H d=some (.frz o<|.dK kvs)/\kvs.length<=i⟩
noncomputable def FM(o:Obj)(it d:Addr)(i:Nat)(h:Heap):Prop:=∃es ep ok ov,o.data=.dict es ep/\IsItemIter h it d i es.size ep ok ov
theorem mj{X:Cx}{pins:List (Addr×Obj)}{W:St}{H:Hp}{s:Shared}{d:Addr}{o:Obj}{kvs:List (Key×V)}{es:Array DictEntry}{ep:Nat}(I:Inv X pins W H s)(e:H d=some (.frz o<|.dK kvs))(ho:o.data=.dict es ep):
  ∃vs,KV kvs vs/\s.heap.DictAt (bF X.prog X.w) d vs ep/\vs.length=es.size/\s.heap.get? d=some o:=by
 obtain⟨F,z,y,vs,r,dd⟩:=(show bQ X.prog X.w H s.heap d (.frz o<|.dK kvs) from I.hok d _ e);obtain⟨Z,J⟩:=dd.dictAt;have c:=J;obtain⟨od,Y,q1,q2,B,q4,U,q6⟩:=c;rw[F] at q1;cases q1;rw[ho] at B;cases B;exact⟨vs,r,J,by have:=U.length;simp at this;omega,F⟩
theorem KV.get2{κ:Type}:∀{kvs:List (κ×V)}{vs:List (κ×Value)},KV kvs vs->∀{j:Nat}{p:κ×V},kvs[j]? =some p->∃u,vs[j]? =some (p.1,u)/\RelV p.2 u
 |_,_,.nil,_,_,h=>by simp at h
 |_,_,.cons r t,0,p,h=>by
  simp at h;subst h;exact⟨_,by rw[List.getElem?_cons_zero,r.1],r.2⟩
 |_,_,.cons r t,j+1,p,h=>KV.get2 t (by simpa using h)
theorem nK{P:Program}{w:World}{K:aF}{elts:List Expr}{k:Nat}{pos:Pos}(o:Obj)(d it:Addr)(kvs:List (Key×V)):Turn P w K (.Tuple elts k pos) (Fw o d kvs) [it] it (FM o it d) where
 mem:=by simp
 obj:=λi h ⟨es,ep,ok,ov,_,st⟩ b F=>by
  have:b=it:=by simpa using F
  subst this;exact⟨_,st,λv z=>nomatch (show Data.fields _=Data.cell v from z)⟩
 keep:=λi h h' ⟨es,ep,ok,ov,hd,st⟩ kk=>⟨es,ep,ok,ov,hd,kk it (by simp) _ st⟩
 item:=by
  intro X hP hw hK hc i pins s W H E I Z st hg;subst hP hw hK;obtain⟨es,ep,ok,ov,hd,c⟩:=st;obtain⟨e,p,hp⟩:=hg;obtain⟨vs,r,da,B,ho⟩:=mj I e hd
  have hne:d≠it:=λz=>by obtain⟨od,es',q1,q2,q3,q4,q5,q6⟩:=da;rw[z,c] at q1;cases q1;cases q3
  obtain⟨u,hu,ru⟩:=r.get2 hp;rw[<-B] at c;have lt:=au c;refine wpAny_pyNext_items_item c da hu λkey h1 U hio ht hsz hk=>?_;refine⟨_,rfl,wpAny_letOwnedTupleGo_items hio λh2 Y J=>?_⟩
  replace J:Heap.SameBut it h1 h2:=J
  have ht2:h2.get? s.heap.objs.size=some {cls:= .type "tuple",data:= .seq #[key,u]}:=(J.2 _<|bd lt).trans ht;have hn:H s.heap.objs.size=none:=I.hok.fresh<|aa _
  have rk:RelV (kV p.1) key:=by
   rcases bP (show jn p.1 key=true from U) with⟨j,t,e1,e2⟩|⟨x,t,e1,e2⟩
   .rw[e1,e2];exact⟨t,rfl⟩
   .rw[e1,e2];exact⟨t,rfl⟩
  have I2:Inv X pins W (upd H s.heap.objs.size<|.tup [kV p.1,p.2]) {s with heap:=h2,toks:=s.toks}:=by
   refine I.turnLaid (fp:=[it]) Z (λb q F z=>?_) (aa _) ⟨(by show 2<=sizeLine;decide),[key,u],.cons rk<|.cons ru .nil,?_⟩
   .have F:b≠it:=λz=>F (by simp[z])
    exact(J.2 b F).trans<|hk b q F z
   .exact⟨_,ht2,⟨rfl,rfl⟩,_,rfl⟩
  refine⟨.ref s.heap.objs.size,_,I2,rfl,⟨_,p,rfl,hn,hp,rfl⟩,⟨es,ep,key,u,hd,by rw[<-B];exact Y⟩,λb F=>?_⟩
  obtain⟨f0,_⟩:=Z b F;have eb:b=it:=by simpa using F
  subst eb;rw[aI<|aw lt];exact f0
 done:=by
  intro X hP hw hK hc i pins s W H E I Z st hg;subst hP hw hK;obtain⟨es,ep,ok,ov,hd,c⟩:=st;obtain⟨e,hl⟩:=hg;obtain⟨vs,r,da,B,ho⟩:=mj I e hd;have lv:=r.length;obtain⟨f0,f1,f2,f3,f4,f5⟩:=Z it (by simp)
  rw[<-B] at c;exact wpAny_pyNext_items_end (I.ok.hd hc) c da (a_ (by omega)) λh' eb=>⟨rfl,I.turned (t':=s.toks) (λb o F e=>eb b o F e) f0 f1 f3 f4 f5⟩
 self:=λ_ _ _ _ _ ⟨es,ep,ok,ov,_,st⟩ h=>PySem.W.kcp_self st h
def Ba(X:Cx)(td:TE):TI:=λW H R=>td W H λx H1=>∃a kvs,x=.ref a/\H1 a=some (.dK kvs)/\∀o,(∀o' w,X.H₀ a≠some (.frz o' w))->R (Fw o a kvs) (upd H1 a<|.frz o<|.dK kvs)
theorem vd{X:Cx}{elts:List Expr}{k:Nat}{tp ap cp:Pos}{o:Expr}{td:TE}(ho:PE X o td)(Y:attributeBase o "items" X.env (eval o X.env)=eval o X.env)(hl:(ap.endLine==cp.line)=true):
  PI X (.Tuple elts k tp) (.Call (.Attribute o "items" ap) [] [] cp) (Ba X td):=by
 intro pins s W H R I h;refine wpAny_Call_method0_late Y hl<|bZ (ho pins s W H _ I h) λv c hp=>?_;obtain⟨x,H1,U,r1,a,kvs,ex,hd,q1⟩:=hp;subst ex;obtain rfl:v=Value.ref a:=r1;obtain⟨ob,es,ep,vs0,g1,g2,g3,g4,g5,g6,lo⟩:=p8<|U.hok a _ hd;obtain⟨z,hs,vs,rel,dd⟩:=oN U.hok hd;obtain⟨t1,t2,_⟩:=mB U<|.inl ⟨kvs,.inl hd⟩;have nf:=U.nofrzD hd;refine⟨"dict","dict.items",PySem.F.plainAttrs_dict,PySem.F.slot_dict_items,PySem.F.type_dict_items,t1,t2,Calls.callWith_builtin rfl<|PySem.evalArgs_none ?_⟩;refine call_meetsIn PySem.F.slot_dict_items t1 PySem.F.entry_dict_items (PySem.F.args_dict_items_1 _) (meets_dict_items (bF X.prog X.w) a hs) ⟨⟨vs,dd⟩,?_⟩;obtain⟨ep',J⟩:=(dd.push {cls:= .type "dict_items",data:= .fields #[.ref a]}).dictAt;have B:=J;obtain⟨od,es',d1,d2,d3,d4,d5,d6⟩:=B;rw[ah _ g1] at d1;cases d1;rw[g3] at d3;cases d3;have lv:vs.length=es.size:=by have:=d5.length;simp at this;omega
 refine wpAny_pyIter_items ⟨_,aC _ rfl,rfl,rfl⟩ J ?_;have Z:=((U.freezeD hd g1).kept (t':=c.toks) (h':=c.heap.push {cls:= .type "dict_items",data:= .fields #[.ref a]}) λb q z=>ah _ z);have I3:=Z.kept (t':=c.toks) (h':=(c.heap.push {cls:= .type "dict_items",data:= .fields #[.ref a]}).push {cls:= .type "dict_itemiterator",data:= .fields #[.none,.bool false,.ref a,.int 0 0,.int vs.length 0,.int ep 0,.none,.none]}) λb q z=>ah _ z;refine⟨_,[(c.heap.push {cls:= .type "dict_items",data:= .fields #[.ref a]}).objs.size],_,_,_,rfl,I3,nK ob a _ kvs,⟨es,ep,.none,.none,g3,?_⟩,λb Y=>?_,q1 ob nf⟩
 .rw[<-lv];exact aC _ rfl
 .have eb:b=(c.heap.push {cls:= .type "dict_items",data:= .fields #[.ref a]}).objs.size:=by simpa using Y
  subst eb;exact Z.fpOk (aa _)<|Z.hok.fresh<|aa _
noncomputable def Ends.thaw(X:Cx)(D:Ends):Ends:=⟨λW=>tw X<|D.nx W,λv=>tw X<|D.rt v,λW=>tw X<|D.bk W,λW=>tw X<|D.ct W⟩
theorem PS.thawD{X:Cx}{st:Stmt}{t:TS}(h:PS X st t):PS X st λD W H=>t (D.thaw X) W H:=λpins s W H D I q=>
 bZ (h pins s W H _ I q) λf J c=>by
  cases f<;>simp only[SP] at c ⊢
  all_goals first
   |exact c
   |(obtain⟨W1,H1,B,a,o,kvs,e,z,q2⟩:=c;exact⟨W1,_,B.thawD e z,q2⟩)
   |(obtain⟨v,W1,H1,B,F,a,o,kvs,e,z,q2⟩:=c;exact⟨v,W1,_,B.thawD e z,F,q2⟩)
end L2
set_option maxHeartbeats 16000000
namespace Ev
open PySem PySem.Spec PyProof.Rows L2
variable{n:Nat}{st:aU}{a:Addr}{vs:List (Key×V)}{kvs:List (Key×D)}{a' b' e' o':Ex}{b e elt o:Expr}{pos:Pos}{g:eX}{X:Cx}
theorem Sim.put{K:aF}{H:Hp}{G:Nat->Addr}(S:Sim K H G st){o o':O}{ho:HO}(e:st[n]? =some o)(new:jg K (upd H (G n) ho) G st.length (G n) o')(B:∀kvs,o≠ .dcf kvs:=by intro _ z;cases z):
  Ext H (upd H (G n) ho) G G st.length st.length/\Sim K (upd H (G n) ho) G (st.set n o'):=by
 obtain⟨u,h1,nt,J⟩:=(S.ob n o e).there2 B;have F:n<st.length:=(aq e).1
 have E:Ext H (upd H (G n) ho) G G st.length st.length:=by
  refine⟨⟨aa _,λ_ _=>rfl,λb zs q=>?_,λb c w q=>?_⟩,λb c q k=>⟨by rw[aI (k n F).symm];exact q,k⟩⟩
  .rw[aI<|cm q h1<|λz=>nt _ z.symm];exact q
  .rw[aI<|cm q h1<|λz=>J _ _ z.symm];exact q
 refine⟨E,λi j hi U=>S.inj i j (by simpa using hi) (by simpa using U),λk c q=>?_⟩
 rw[aA];by_cases hk:k=n
 .subst hk;rw[aK F] at q;cases q;exact new
 .rw[aD<|Ne.symm hk] at q;have I:k<st.length:=(aq q).1;exact(S.ob k c q).move E.toExt0<|aI λz=>hk<|S.inj k n I F z
structure Thw(H H':Hp):Prop where
 tp:∀b xs,H b=some (.tup xs)->H' b=some (.tup xs)
 fz:∀b o u,(∀kvs,u≠ .dK kvs)->H b=some (.frz o u)->H' b=some (.frz o u)
section
variable{K:aF}{H H':Hp}{G:Nat->Addr}{m:Nat}
theorem fP.thw{xs:List V}(e:Thw H H')(h:fP K H a xs):fP K H' a xs:=by
 rcases h with(h|⟨o,h⟩)|h
 .exact .inl<|.inl<|e.tp _ _ h
 .exact .inl<|.inr ⟨o,e.fz _ _ _ (λ_ z=>by cases z) h⟩
 .exact .inr h
theorem tz.thw{xs:List V}(e:Thw H H')(h:tz K H a xs):tz K H' a xs:=by
 rcases h with⟨o,h⟩|h
 .exact .inl ⟨o,e.fz _ _ _ (λ_ z=>by cases z) h⟩
 .exact .inr h
mutual
theorem VRel.thw{K:aF}{H H':Hp}{G:Nat->Addr}{m:Nat}(e:Thw H H'):∀{d:D}{v:V},VRel K H G m d v->VRel K H' G m d v
 |_,_,.non=>.non
 |_,_,.bl b=>.bl b
 |_,_,.int i=>.int i
 |_,_,.str x=>.str x
 |_,_,.tup h r=>.tup (fP.thw e h)<|VRels.thw e r
 |_,_,.fl h r=>.fl (tz.thw e h)<|VRels.thw e r
 |_,_,.ref h=>.ref h
theorem VRels.thw{K:aF}{H H':Hp}{G:Nat->Addr}{m:Nat}(e:Thw H H'):∀{ds:List D}{vs:List V},VRels K H G m ds vs->VRels K H' G m ds vs
 |_,_,.nil=>.nil
 |_,_,.cons h t=>.cons (VRel.thw e h)<|VRels.thw e t
end
theorem DRels.thw(e:Thw H H'){ds:List (Key×D)}(h:DRels K H G m ds vs):DRels K H' G m ds vs:=by
 induction h with
 |nil=>exact .nil
 |cons h t ih=>exact .cons (VRel.thw e h) ih
theorem FRels.thw(e:Thw H H'){ds:List (Str×D)}{vs:List (Str×V)}(h:FRels K H G m ds vs):FRels K H' G m ds vs:=by
 induction h with
 |nil=>exact .nil
 |cons h t ih=>exact .cons (VRel.thw e h) ih
theorem jg.thw{o:O}(h:jg K H G m a o)(E:Thw H H')(c:H' a=H a):jg K H' G m a o:=by
 cases o with
 |lst ds=>obtain⟨xs,h1,h2⟩:=h;exact⟨xs,c.trans h1,VRels.thw E h2⟩
 |dct ds=>obtain⟨xs,h1,h2⟩:=h;exact⟨xs,c.trans h1,h2.thw E⟩
 |ins x fs=>obtain⟨C,dx,xs,h0,h1,h2,B⟩:=h;exact⟨C,dx,xs,h0,c.trans h1,h2.thw E,B⟩
 |dcf ds=>obtain⟨z,xs,h1,h2⟩:=h;exact⟨z,xs,c.trans h1,h2.thw E⟩
theorem Sim.freeze(S:Sim K H G st)(e:st[n]? =some (.dct kvs)):∃vs,H (G n)=some (.dK vs)/\DRels K H G st.length kvs vs/\∀c,Ext H (upd H (G n)<|.frz c<|.dK vs) G G st.length st.length/\Sim K (upd H (G n)<|.frz c<|.dK vs) G (st.set n<|.dcf kvs):=by
 obtain⟨vs,h1,h2⟩:=S.ob n _ e;have B:n<st.length:=(aq e).1;refine⟨vs,h1,h2,λc=>?_⟩
 have E:Ext0 H (upd H (G n)<|.frz c<|.dK vs) G G st.length st.length:=by
  refine⟨aa _,λ_ _=>rfl,λb zs q=>?_,λb o u q=>?_⟩
  .rw[aI<|cm q h1 (by intro z;cases z)];exact q
  .rw[aI<|cm q h1 (by intro z;cases z)];exact q
 exact S.put e ⟨c,vs,bf,h2.ext0 E⟩
theorem Sim.thaw(S:Sim K H G st)(e:st[n]? =some (.dcf kvs)):∃c vs,H (G n)=some (.frz c<|.dK vs)/\Sim K (upd H (G n)<|.dK vs) G (st.set n<|.dct kvs):=by
 obtain⟨c,vs,h1,h2⟩:=S.ob n _ e;have F:n<st.length:=(aq e).1
 have E:Thw H (upd H (G n)<|.dK vs):=by
  refine⟨λb zs q=>?_,λb o u I q=>?_⟩
  .rw[aI<|cm q h1 (by intro z;cases z)];exact q
  .rw[aI<|cm q h1 (by intro z;cases z;exact I _ rfl)];exact q
 refine⟨c,vs,h1,λi j hi J=>S.inj i j (by simpa using hi) (by simpa using J),λk o q=>?_⟩
 rw[aA];by_cases hk:k=n
 .subst hk;rw[aK F] at q;cases q;exact⟨vs,bf,h2.thw E⟩
 .rw[aD<|Ne.symm hk] at q;have B:k<st.length:=(aq q).1;exact(S.ob k o q).thw E<|aI λz=>hk<|S.inj k n B F z
theorem Ext.thaw{Hm:Hp}{G':Nat->Addr}{m':Nat}{F:Obj}(E:Ext (upd H (G n)<|.frz F<|.dK vs) Hm G G' m m')(I:n<m)(B:H (G n)=some (.dK vs)):Ext H (upd Hm (G n)<|.dK vs) G G' m m':=by
 refine⟨⟨E.le,E.ad,λb zs q=>?_,λb o u q=>?_⟩,λb o q k=>?_⟩
 .have c:=cm q B (by intro z;cases z)
  rw[aI c];exact E.tp b zs (by rw[aI c];exact q)
 .have c:=cm q B (by intro z;cases z)
  rw[aI c];exact E.fz b o u (by rw[aI c];exact q)
 .have c:b≠G n:=(k n I).symm;obtain⟨q1,q2⟩:=E.fr b o (by rw[aI c];exact q) k
  exact⟨by rw[aI c];exact q1,q2⟩
theorem Thw.of{c:Obj}(h1:H a=some (.frz c<|.dK vs)):Thw H (upd H a<|.dK vs):=by
 refine⟨λb zs q=>?_,λb o u B q=>?_⟩
 .rw[aI<|cm q h1 (by intro z;cases z)];exact q
 .rw[aI<|cm q h1 (by intro z;cases z;exact B _ rfl)];exact q
theorem LRel.thw{loc:Loc}{W:L2.St}(e:Thw H H')(L:LRel K H G m loc W):LRel K H' G m loc W:=⟨L.len,λi d q=>let⟨v,h1,h2⟩:=L.at_ i d q;⟨v,h1,h2.thw e⟩⟩
theorem DRels.at_{ds:List (Key×D)}(h:DRels K H G m ds vs):∀{i:Nat}{p:Key×D},ds[i]? =some p->∃v,vs[i]? =some (p.1,v)/\VRel K H G m p.2 v:=by
 induction h with
 |nil=>intro i p e;simp at e
 |cons h t ih=>
  intro i p e;cases i with
  |zero=>simp at e;subst e;exact⟨_,rfl,h⟩
  |succ i=>exact ih (by simpa using e)
theorem AZ(k:Key):VRel K H G m (kD k) (kV k):=by
 cases k with
 |inl i=>exact .int i
 |inr x=>exact .str x
theorem eA.di{F:Hp}{G0:Nat->Addr}{m0:Nat}{o:Obj}(Z:n<m0)(h0:F (G0 n)=some (.frz o<|.dK vs)):eA K (Fw o (G0 n) vs) (.di n) F G0 m0:=λH G st i E S=>by
 simp only[nxt];cases q:st[n]? with
 |none=>exact⟨λe=>(by cases e),λx e=>(by cases e)⟩
 |some ob=>
  have rel:=S.ob n ob q;rw[E.ad n Z] at rel;cases ob with
  |dcf kvs=>
   obtain⟨o',U,h1,r⟩:=rel;have z:=E.fz _ _ _ h0;rw[h1] at z;cases z;have l:=r.length;refine⟨λe=>?_,λx e=>?_⟩
   .have e:kvs[i]?.map (λp=>D.tup [kD p.1,p.2])=none:=ak e;have e:kvs[i]? =none:=by simpa using e
    exact⟨h1,by have:=List.getElem?_eq_none_iff.mp e;omega⟩
   .have e:=ak e;cases e2:kvs[i]? with
    |none=>rw[e2] at e;cases e
    |some p=>rw[e2] at e;have e:D.tup [kD p.1,p.2]=x:=ak e;subst e;obtain⟨v,B,rv⟩:=r.at_ e2;refine⟨⟨h1,_,B⟩,λw H' J=>?_⟩;obtain⟨a,p',rfl,Y,c,rfl⟩:=J;rw[B] at c;cases c;obtain⟨I,S1⟩:=S.tup (xs:=[kV p.1,v]) Y;exact⟨I,S1,.tup (.inl<|.inl bf)<|.cons (AZ _)<|.cons (rv.ext I) .nil⟩
  |_=>exact⟨λe=>(by cases e),λx e=>(by cases e)⟩
end
theorem rq{d:D}{c:aU}(e:pY d st=.ok n c):∃kvs,d=.ref n/\st[n]? =some (.dct kvs)/\c=st.set n (.dcf kvs):=by
 cases d with
 |ref k=>
  unfold pY at e;dsimp only at e;cases q:st[k]? with
  |none=>rw[q] at e;cases e
  |some o=>
   rw[q] at e;cases o with
   |dct kvs=>cases e;exact⟨kvs,rfl,q,rfl⟩
   |_=>cases e
 |_=>cases e
section
variable{T:Tab}{g:eX}{X:Cx}{sc scope:Scope}{N:List Str}{pos:Pos}
theorem pC{H H1:Hp}{G G1:Nat->Addr}{st1:aU}{kvs:List (Key×Ev.D)}{I:Obj}{f:M D}{Q:VK}(E1:Ext H H1 G G1 st.length st1.length)(U:n<st1.length)(g1:H1 (G1 n)=some (.dK vs))(Z:∀o w,X.H₀ (G1 n)≠some (.frz o w))
  (P:cv X.K H G st (bg f (λr=>xi n r)<|st1.set n<|.dcf kvs) Q):cv X.K (upd H1 (G1 n)<|.frz I<|.dK vs) G1 (st1.set n<|.dcf kvs) (f<|st1.set n<|.dcf kvs) (λv=>tw X<|Q v):=by
 have ls:(st1.set n<|.dcf kvs).length=st1.length:=aA ..;obtain⟨r,F,e3,P⟩:=aT P;rw[e3];unfold xi at P;cases q3:F[n]? with
 |none=>rw[q3] at P;exact P.elim
 |some o3=>
  rw[q3] at P;cases o3 with
  |dcf kvs3=>
   intro H3 G3 w B S3 Y;rw[ls] at B;obtain⟨ob3,vs3,c,J⟩:=S3.thaw q3;have ad:G3 n=G1 n:=B.ad n U;have z:=B.fz _ _ _ (bf:upd H1 (G1 n) (.frz I<|.dK vs) (G1 n)=_);rw[ad] at c J;rw[c] at z;cases z;exact⟨G1 n,I,vs,c,Z,P _ G3 w (by rw[aA];exact E1.trans<|B.thaw U g1) J (by rw[aA];exact Y.thw<|Thw.of c)⟩
  |_=>exact P.elim
theorem yG{t it:Expr}{z:Str×Str}(C:Ctx T g X sc N)(c:T.calm=true)(I:dw sc scope N [z.1,z.2]=true)(F:nZ t=some z)(hi:vz "items" it=some o)(ho:PE X o (tE X.K<|run g o'))
  (he:∀fp s H,PE (bz X [z.1,z.2] scope fp s H) elt<|tE X.K<|run g e'):PE X (.ListComp elt [⟨t,it,[],0⟩] scope pos) (tE X.K<|run g<|.compI o' e'):=by
 obtain⟨ap,cp,rfl,h4,h5⟩:=oa hi
 have B:BM t=some (true,[z.1,z.2]):=by obtain⟨p,q,k,r,rfl⟩:=gJ F;rfl
 obtain⟨hx,hg⟩:=ph C c I B;obtain⟨p,q,k,r,rfl⟩:=gJ F;refine((mr (C.calm c) (et C I).1 (vd ho (dN h5 _ _) h4) hg (λ_ _ _=>qG) he<|λ_=>rfl).thawD).imp λW H Q hp=>?_;obtain⟨G,st,loc,S,L,P⟩:=hp;obtain⟨d,st1,e1,P⟩:=aT P;obtain⟨n,Y,e2,P⟩:=aT P;obtain⟨kvs,rfl,q,rfl⟩:=rq e2;refine bj S L e1 λH1 G1 v U S1 Z=>?_;cases Z with
 |ref hn=>
  obtain⟨vs,J,g2,g3⟩:=S1.freeze q;refine⟨G1 n,vs,rfl,J,λob nf=>?_⟩;obtain⟨E2,S2⟩:=g3 ob;have ls:(st1.set n<|.dcf kvs).length=st1.length:=aA ..;exact gA (iI (c':=e') (ht:=false) (two:=true) (by rw[ls];exact(L.ext U).ext E2)) (eA.di (by rw[ls];exact hn) bf) (Ext.refl _ _ _) S2<|pC U hn J nf P
end
set_option maxHeartbeats 8000000
theorem gL{x:D}(h:fM st x=some kvs):∃n,x=.ref n/\st[n]? =some (.dct kvs):=by
 cases x with
 |ref n=>
  unfold fM at h;dsimp only at h;split at h
  .cases h;exact⟨n,rfl,by assumption⟩
  .cases h
 |_=>cases h
section
variable{T:Tab}{g:eX}{X:Cx}{sc:Scope}{N:List Str}{p1 p2 q1 q2 ap cp:Pos}
theorem Bv{a:Expr}(C:Ctx T g X sc N)(hl:(ap.endLine==cp.line)=true)(hb:attributeBase o "get" X.env (eval o X.env)=eval o X.env)(h1:starEach [a,b] X.env=(false,eval a X.env)::starEach [b] X.env)(h2:starEach [b] X.env=[(false,eval b X.env)])
  (ho:PE X o (tE X.K<|run g o'))(ha:PE X a (tE X.K<|run g a'))(Z:PE X b (tE X.K<|run g b')):PE X (.Call (.Attribute o "get" ap) [a,b] [] cp) (tE X.K<|run g<|.dget o' a' b'):=by
 refine(vj (by have:=C.un;omega) ho ha Z ⟨hb,by rw[h1,h2];rfl,hl,by rw[h1,h2];rfl⟩).imp λW H Q hp=>?_
 obtain⟨G,st,loc,S,L,P⟩:=hp;obtain⟨x,st1,e1,P⟩:=aT P;obtain⟨_,st2,B,P⟩:=aT P;obtain⟨k,st3,e3,P⟩:=aT P;obtain⟨z,st4,e4,c⟩:=aT P;unfold lP at B;split at B
 .rename_i kv0 Y;cases B;obtain⟨n,rfl,hn⟩:=gL Y;refine bj S L e1 λH1 G1 v E1 S1 r1=>?_;have r1':=r1;cases r1 with
  |ref hlt=>
   obtain⟨vs,g1,g2⟩:=S1.ob _ _ hn;refine⟨_,rfl,.inl ⟨vs,.inl g1⟩,bj S1 (L.ext E1) e3 λH2 G2 u E2 S2 r2=>bj S2 ((L.ext E1).ext E2) e4 λH3 G3 w E3 S3 r3=>?_⟩;have E4:=E2.trans E3;have E5:=E1.trans E4;unfold wm at c;split at c
   .rename_i kvs hk;obtain⟨n',e,J⟩:=gL hk;cases e;obtain⟨ws,k1,k2⟩:=S3.ob _ _ J;rw[E4.ad n hlt] at k1;split at c
    .rename_i I U;have e:=iE U<|r2.ext E3;subst e;refine⟨_,gM.k (k:=I) k1,?_⟩;have l:=k2.look (k:=I);cases q:bV kvs I with
     |none=>rw[q] at l c;rw[l];exact(c.mono E5).same S3 r3
     |some d=>rw[q] at l c;obtain⟨w',hw,F⟩:=l;rw[hw];exact(c.mono E5).same S3 F
    .exact c.elim
   .exact c.elim
 .cases B
theorem yE{a:Expr}(C:Ctx T g X sc N)(hl:(ap.endLine==cp.line)=true)(hb:attributeBase o "get" X.env (eval o X.env)=eval o X.env)(h1:starEach [a] X.env=[(false,eval a X.env)])
  (ho:PE X o (tE X.K<|run g o'))(ha:PE X a (tE X.K<|run g a')):PE X (.Call (.Attribute o "get" ap) [a] [] cp) (tE X.K<|run g<|.dget1 o' a'):=by
 refine(vm (by have:=C.un;omega) ho ha ⟨hb,by rw[h1];rfl,hl,by rw[h1];rfl⟩).imp λW H Q hp=>?_
 obtain⟨G,st,loc,S,L,P⟩:=hp;obtain⟨x,st1,e1,P⟩:=aT P;obtain⟨_,st2,z,P⟩:=aT P;obtain⟨k,st3,e3,c⟩:=aT P;unfold lP at z;split at z
 .rename_i kv0 U;cases z;obtain⟨n,rfl,hn⟩:=gL U;refine bj S L e1 λH1 G1 v E1 S1 r1=>?_;cases r1 with
  |ref hlt=>
   obtain⟨vs,g1,g2⟩:=S1.ob _ _ hn;refine⟨_,rfl,.inl ⟨vs,.inl g1⟩,bj S1 (L.ext E1) e3 λH2 G2 u E2 Y r2=>?_⟩;have E5:=E1.trans E2;unfold p9 at c;split at c
   .rename_i kvs hk;obtain⟨n',e,I⟩:=gL hk;cases e;obtain⟨ws,Z,k2⟩:=Y.ob _ _ I;rw[E2.ad n hlt] at Z;split at c
    .rename_i F J;have e:=iE J r2;subst e;refine⟨_,gM.k (k:=F) Z,?_⟩;have l:=k2.look (k:=F);cases q:bV kvs F with
     |none=>rw[q] at l c;rw[l];exact(c.mono E5).same Y .non
     |some d=>rw[q] at l c;obtain⟨w',hw,B⟩:=l;rw[hw];exact(c.mono E5).same Y B
    .exact c.elim
   .exact c.elim
 .cases z
theorem Bj{a:Expr}(C:Ctx T g X sc N)(F:T.calm=true)(hg:bH sc "sorted"=true)(B:bH sc "set"=true)(c:starEach [a] X.env=[(false,eval a X.env)])(ha:PE X a (tE X.K<|run g a')):
  PE X (.Call (.Name "sorted" p1) [.Call (.Name "set" p2) [a] [] q2] [] q1) (tE X.K<|run g<|.sset a'):=by
 refine(xP (C.calm F) (iG C hg) (C.blt _ (by decide+kernel)) (iG C B) (C.blt _ (by decide+kernel)) ha c).imp λW H Q Z=>?_
 obtain⟨G,st,loc,S,L,P⟩:=Z;obtain⟨x,st1,e1,P⟩:=aT P;refine bj S L e1 λH1 G1 v E1 J U=>?_;unfold uk at P;split at P
 .rename_i xs es;split at P
  .rename_i ns z;split at P
   .rename_i I;obtain⟨b,vs,rfl,Y,rv⟩:=U.seq J es;have e:=j7 z rv;subst e;exact⟨b,ns,rfl,Y,I.1,λn hn=>of_decide_eq_true<|all_eq_true.mp I.2 n hn,cv.alloc J (P.mono E1)<|iZ _⟩
   .exact P.elim
  .exact P.elim
 .exact P.elim
end
set_option maxHeartbeats 16000000
noncomputable def Plain(es:List Expr)(env:Env)(pos:Pos):Prop:=(backTo pos<|starEach es env).any (·.1)=false
theorem pE{es:List Expr}{env:Env}(h:starEach (e::es) env=(false,eval e env)::starEach es env)(k:Plain es env pos):Plain (e::es) env pos:=by unfold Plain at k ⊢;rw[h];simpa[backTo] using k
def SX(g:eX)(X:Cx)(e:Expr)(x:Ex):Prop:=PE X e (tE X.K<|run g x)/\PT X e (tT X.K<|run g x)
def SE(T:Tab)(g:eX)(n:Nat):Prop:=∀{X:Cx}{sc:Scope}{N:List Str}{e:Expr}{x:Ex},Ctx T g X sc N->cE T n sc N e=some x->SX g X e x
def DN(T:Tab)(g:eX)(n:Nat):Prop:=∀{X:Cx}{sc:Scope}{N:List Str}{es:List Expr}{xs:List Ex},Ctx T g X sc N->tH T n sc N es=some xs->
 PA X es (tA X.K<|runs g xs)/\es.length=xs.length/\(∀pos,Plain es X.env pos)/\∀e r,es=e::r->starEach (e::r) X.env=(false,eval e X.env)::starEach r X.env/\∀pos,Plain r X.env pos
theorem ut{T:Tab}(h:SE T g n)(hs:DN T g n):DN T g (n+1):=by
 intro X sc N es xs C e;cases es with
 |nil=>cases e;refine⟨dG.imp λW H Q F=>?_,rfl,λpos=>rfl,λ_ _ z=>nomatch z⟩;obtain⟨G,st,loc,S,L,P⟩:=F;exact P H G [] (Ext.refl _ _ _) S .nil
 |cons a0 as0=>
  obtain⟨U,c,e⟩:=bs e;obtain⟨I,B,rfl⟩:=map_some e;have h1:=h C c;obtain⟨h2,h3,J,_⟩:=hs C B;have st:=ck c as0 X.env;refine⟨(b_ h1.1 h2 st).imp λW H Q F=>?_,by simp[h3],λpos=>pE st<|J pos,λa b z=>by cases z;exact⟨st,J⟩⟩
  obtain⟨G,st,loc,S,L,P⟩:=F;obtain⟨d,st1,U,P⟩:=iL P;obtain⟨ds,st2,c,P⟩:=iL P;exact bj S L U λH1 G1 v Z S1 I=>jT S1 (L.ext Z) c λH2 G2 vs Y S2 B=>P H2 G2 (v::vs) (Z.trans Y) S2<|.cons (I.ext Y) B
theorem B3{c a:Expr}{c':Ex}(U:PT X c (tT X.K<|run g c'))(Z:PT X a (tT X.K<|run g a'))(Y:PT X b (tT X.K<|run g b')):PT X (.IfExp c a b pos) (tT X.K<|run g<|.ite c' a' b'):=by
 intro pins s W H Q I h;obtain⟨G,st,loc,S,L,P⟩:=h;obtain⟨x,st1,e1,P⟩:=dE P;obtain⟨i,z,e2,P⟩:=dE P;obtain⟨e3,rfl⟩:=bR e2;have:=cg e3;subst this;refine isTrue_IfExp<|bZ (U pins s W H (λk H1=>if k=true then tT X.K (run g a') W H1 Q else tT X.K (run g b') W H1 Q) I<|jk S L e1 λH1 G1 B J=>?_) λk F ⟨H1,I1,q1⟩=>?_
 .cases i with
  |true=>rw[if_pos rfl];exact⟨G1,z,loc,J,L.ext B,P.mono B⟩
  |false=>rw[if_neg aQ];exact⟨G1,z,loc,J,L.ext B,P.mono B⟩
 .cases k with
  |true=>exact Z pins F W H1 Q I1 (by simpa using q1)
  |false=>exact Y pins F W H1 Q I1 (by simpa using q1)
theorem both{m:Loc->M D}(h:PE X e (tE X.K m))(c:∀whole,isTrue e X.env whole=(do let v <-whole;standAt e.pos;holding [v]<|truthy v)):PE X e (tE X.K m)/\PT X e (tT X.K m):=⟨h,uV h c⟩
theorem rP{T:Tab}(h:SE T g n){sc scope:Scope}{N:List Str}{gens:List Comprehension}{y:Ex}(C:Ctx T g X sc N)(ex:cE T (n+1) sc N (.ListComp elt gens scope pos)=some y):
  ∃xs t it ifs,gens=[⟨t,it,ifs,0⟩]/\T.calm=true/\dw sc scope N xs=true/\gU g X xs t it ifs elt scope y:=by
 obtain⟨q,U,ex⟩:=bs ex;have U:=oJ U;obtain⟨t,it,ifs⟩:=q;rcases n4 ex with⟨⟨a,b⟩,hr,ex⟩|⟨_,ex⟩
 .obtain⟨x,hx,ex⟩:=bs ex;obtain⟨⟨B,z⟩,ex⟩:=fW ex;obtain⟨c,h1,ex⟩:=bs ex;obtain⟨a',F,ex⟩:=bs ex;obtain⟨b',Y,ex⟩:=bs ex;obtain⟨e',Z,ex⟩:=bs ex;obtain⟨c',e4,rfl⟩:=map_some ex;dsimp only at h1;cases cN h1;exact⟨[x],t,it,_,U,z,B,yF C z B hx hr (h C F).1 (h C Y).1 (ck F _ _) (ck Y [] _) (λfp s H=>qF (h (gz C B fp s H) e4).2) λfp s H=>(h (gz C B fp s H) Z).1⟩
 obtain⟨⟨two,xs⟩,I,ex⟩:=bs ex;obtain⟨⟨B,z,J⟩,ex⟩:=fW ex;obtain⟨s',F,ex⟩:=bs ex;obtain⟨e',Y,ex⟩:=bs ex;refine⟨xs,t,it,ifs,U,z,B,?_⟩;have he:=λfp s H=>(h (gz C B fp s H) Y).1;rcases ifs with _|⟨c,_|⟨c2,r⟩⟩
 .cases ex;exact we C z B I J (h C F).1 (ck F [] _) (m8 F X.env) (λ_ _ _=>qG) he
 .obtain⟨c',Z,rfl⟩:=map_some ex;exact we C z B I J (h C F).1 (ck F [] _) (m8 F X.env) (λfp s H=>qF (h (gz C B fp s H) Z).2) he
 .cases ex
theorem yC{T:Tab}{sc:Scope}{N:List Str}{args:List Expr}{m:Str}{xs:List Ex}{ap:Pos}(C:Ctx T g X sc N)(c:(ap.endLine==pos.line)=true)(B:args.length<29)(z:attributeBase o m X.env (eval o X.env)=eval o X.env)(ho:PE X o (tE X.K<|run g o'))
  (F:PA X args (tA X.K<|runs g xs)/\args.length=xs.length/\(∀pos,Plain args X.env pos)/\∀e r,args=e::r->starEach (e::r) X.env=(false,eval e X.env)::starEach r X.env/\∀pos,Plain r X.env pos):PE X (.Call (.Attribute o m ap) args [] pos) (tE X.K<|run g<|.meth o' m (T.ims m) xs):=by
 obtain⟨h1,h2,h0,J⟩:=F;cases args with
 |nil=>have:xs=[]:=length_eq_zero_iff.mp h2.symm;subst this;exact yD C c z ho
 |cons a as=>obtain⟨I,H⟩:=J _ _ rfl;exact Bq C c B z ho h1 I (H _)<|h0 _
theorem AH(J:PE X e (tE X.K<|run g e'))(c:starEach [e] X.env=[(false,eval e X.env)]):PA X [e] (tA X.K<|runs g [e']):=by refine(b_ J dG c).imp λW H Q I=>?_;obtain⟨G,st,loc,S,L,P⟩:=I;obtain⟨d,st1,U,P⟩:=iL P;obtain⟨ds,B,z,P⟩:=iL P;rw[runs] at z;cases z;exact bj S L U λH1 G1 v Z Y F=>P H1 G1 [v] Z Y<|.cons F .nil
theorem xx{T:Tab}(h:SE T g n)(hs:DN T g n){sc:Scope}{N:List Str}{f:Str}{fp cp:Pos}{args:List Expr}{x:Ex}(C:Ctx T g X sc N)(ex:cE T (n+1) sc N (.Call (.Name f fp) args [] cp)=some x):SX g X (.Call (.Name f fp) args [] cp) x:=by
 obtain⟨U,ex⟩:=fW ex;rcases n4 ex with⟨⟨o,z,elt,scope⟩,F,ex⟩|⟨_,ex⟩
 .obtain⟨⟨hk,B⟩,ex⟩:=fW ex;obtain⟨o',h1,ex⟩:=bs ex;obtain⟨e',h2,rfl⟩:=map_some ex;obtain⟨rfl,F⟩:=fW F;obtain⟨c,h3,F⟩:=bs F;cases cN h3;obtain⟨t,it,p,rfl,Z,Y⟩:=yl F;exact both (Dz C B U (b:= .sum) (by kernel_rfl) (AH (yG C B hk Z Y (h C h1).1 λfp s H=>(h (gz C hk fp s H) h2).1) rfl) rfl rfl) λ_=>rfl
 rcases n4 ex with⟨o,F,ex⟩|⟨_,ex⟩
 .obtain⟨B,ex⟩:=fW ex;obtain⟨o',I,rfl⟩:=map_some ex;obtain⟨rfl,F⟩:=fW F;obtain⟨c,h1,F⟩:=bs F;cases cN h1;obtain⟨hg2,_,_,rfl⟩:=j_ F;exact both (Bj C B U hg2 (ck I [] _) (h C I).1) λ_=>rfl
 cases args with
 |nil=>cases ex
 |cons a as=>
  have kk:∀{xs:List Ex},tH T n sc N (a::as)=some xs->PA X (a::as) (tA X.K<|runs g xs)/\(a::as).length=xs.length/\starEach (a::as) X.env=(false,eval a X.env)::starEach as X.env/\∀pos,Plain as X.env pos:=λJ=>by obtain⟨h1,h2,_,h3⟩:=hs C J;exact⟨h1,h2,h3 _ _ rfl⟩
  rcases n4 ex with⟨i,hi,ex⟩|⟨_,ex⟩
  .obtain⟨xs,J,rfl⟩:=map_some ex;obtain⟨h1,h2,Z,Y⟩:=kk J;exact both (Ff C U hi h1 h2 Z<|Y _) λ_=>rfl
  rcases n4 ex with⟨j,hj,ex⟩|⟨_,ex⟩
  .obtain⟨xs,J,rfl⟩:=map_some ex;obtain⟨h1,_,Z,Y⟩:=kk J;exact both (Dp C U hj h1 Z<|Y _) λ_=>rfl
  rcases n4 ex with⟨b,hb,ex⟩|⟨_,ex⟩
  .obtain⟨B,ex⟩:=fW ex;obtain⟨xs,J,rfl⟩:=map_some ex;obtain⟨h1,_,Z,Y⟩:=kk J;exact both (Dz C B U hb h1 Z<|Y _) λ_=>rfl
  obtain⟨hf,ex⟩:=fW ex;obtain⟨t',h1,ex⟩:=bs ex;obtain⟨t,h2,ex⟩:=bs ex;obtain⟨hgt,ex⟩:=fW ex;rcases n4 ex with⟨tp,hi,ex⟩|⟨_,ex⟩
  .obtain⟨a',I,rfl⟩:=map_some ex;cases cN h1;obtain⟨_,rfl⟩:=fo h2;subst hf;exact both (Du C U hgt hi (h C I).1<|ck I _ _) λ_=>rfl
  .obtain⟨tb,hi,ex⟩:=bs ex;obtain⟨a',I,rfl⟩:=map_some ex;cases cN h1;obtain⟨_,rfl⟩:=fo h2;subst hf;exact both (Dt C U hgt hi (h C I).1<|ck I _ _) λ_=>rfl
theorem xw{T:Tab}(h:SE T g n)(hs:DN T g n)(hd:SD T g n):SE T g (n+1):=by
 intro X sc N e x C ex;cases e with
 |Constant k _ _=>
  cases k with
  |int=>cases ex;exact both (jH (X:=X) (g:=g) g_ (d:= .int _)<|λ_ _ _=>.int _) λ_=>rfl
  |str=>cases ex;exact both (jH (X:=X) (g:=g) vf (d:= .str _)<|λ_ _ _=>.str _) λ_=>rfl
  |bool=>cases ex;exact both (jH (X:=X) (g:=g) CL (d:= .bl _)<|λ_ _ _=>.bl _) λ_=>rfl
  |none=>cases ex;exact both (jH (X:=X) (g:=g) AC (d:= .non)<|λ_ _ _=>.non) λ_=>rfl
  |_=>cases ex
 |Name y _=>
  obtain⟨k,q,ex⟩:=bs ex;cases k with
  |«local»=>obtain⟨i,hi,rfl⟩:=map_some ex;exact both (wc C hi<|.inl q) λ_=>rfl
  |cell=>obtain⟨i,hi,rfl⟩:=map_some ex;exact both (wc C hi<|.inr<|.inl q) λ_=>rfl
  |free=>obtain⟨i,hi,rfl⟩:=map_some ex;exact both (wc C hi<|.inr<|.inr q) λ_=>rfl
  |_=>cases ex
 |Tuple es _ _=>obtain⟨J,ex⟩:=fW ex;obtain⟨xs,Y,rfl⟩:=map_some ex;obtain⟨h1,h2,_⟩:=hs C Y;exact both (zm h1 J h2) λ_=>rfl
 |List es _=>obtain⟨J,ex⟩:=fW ex;obtain⟨xs,Y,rfl⟩:=map_some ex;obtain⟨h1,h2,_⟩:=hs C Y;exact both (Dq h1 J h2) λ_=>rfl
 |Dict ks vs _=>
  cases ks with
  |nil=>
   cases vs with
   |nil=>cases ex;exact both (Dw (X:=X) (g:=g)) λ_=>rfl
   |cons=>cases ex
  |cons k ks=>obtain⟨ks',hk,ex⟩:=bs ex;obtain⟨vs',he,ex⟩:=bs ex;obtain⟨Z,ex⟩:=fW ex;cases ex;exact both (Br hd C hk he Z.1 Z.2.1 Z.2.2) λ_=>rfl
 |IfExp c a b _=>obtain⟨c',F,ex⟩:=bs ex;obtain⟨a',B,ex⟩:=bs ex;obtain⟨b',I,rfl⟩:=map_some ex;exact⟨Ds (h C F).2 (h C B).1 (h C I).1,B3 (h C F).2 (h C B).2 (h C I).2⟩
 |BinOp a op b _=>obtain⟨a',F,ex⟩:=bs ex;obtain⟨o,B,ex⟩:=bs ex;obtain⟨b',I,rfl⟩:=map_some ex;exact both (DA B (h C F).1 (h C I).1) λ_=>rfl
 |UnaryOp op a _=>
  cases op with
  |Not=>obtain⟨a',U,rfl⟩:=map_some ex;exact⟨Do (h C U).1,B2 (h C U).2⟩
  |USub=>obtain⟨i,hi,rfl⟩:=map_some ex;obtain⟨_,_,rfl⟩:=ka hi;exact both Bp λ_=>rfl
  |_=>cases ex
 |BoolOp op es p=>
  rcases es with _|⟨a,_|⟨b,r⟩⟩
  .cases ex
  .exact⟨AA (h C ex).1,BZ (h C ex).2⟩
  .obtain⟨a',F,ex⟩:=bs ex;obtain⟨b',B,rfl⟩:=map_some ex;cases op with
   |And=>exact⟨DB (h C F).1 (h C B).1,B5 (h C F).2 (h C B).2⟩
   |Or=>exact⟨Fd (h C F).1 (h C B).1,Ej (h C F).2 (h C B).2⟩
 |Compare a ops bs' _=>obtain⟨op,ho,ex⟩:=bs ex;obtain⟨b,hb,ex⟩:=bs ex;obtain⟨a',F,ex⟩:=bs ex;obtain⟨b',B,rfl⟩:=map_some ex;cases cN ho;cases cN hb;exact⟨Dy C.un (oT B _) (h C F).1 (h C B).1,B4 C.un (oT B _) (h C F).1 (h C B).1⟩
 |Subscript a b _=>
  rcases n4 ex with⟨⟨lo,hi⟩,hq,ex⟩|⟨_,ex⟩
  .obtain⟨p,rfl⟩:=xp hq;cases lo with
   |none=>obtain⟨hh,e0,ex⟩:=bs ex;cases e0;obtain⟨a',F,ex⟩:=bs ex;obtain⟨h',B,rfl⟩:=map_some ex;exact both (Bk (h C F).1 qJ (jC (h C B).1) qN iz) λ_=>rfl
   |some l=>
    obtain⟨a',F,ex⟩:=bs ex;obtain⟨l',B,ex⟩:=bs ex;cases hi with
    |none=>cases ex;exact both (Bk (h C F).1 (jC (h C B).1) qJ iz qN) λ_=>rfl
    |some hh=>obtain⟨h',I,rfl⟩:=map_some ex;exact both (Bk (h C F).1 (jC (h C B).1) (jC (h C I).1) iz iz) λ_=>rfl
  rcases n4 ex with⟨u,hq,ex⟩|⟨_,ex⟩
  .obtain⟨a',F,rfl⟩:=map_some ex;obtain⟨_,_,_,_,rfl⟩:=xr hq;exact both (Fc (h C F).1) λ_=>rfl
  obtain⟨hp,ex⟩:=fW ex;obtain⟨a',F,ex⟩:=bs ex;obtain⟨b',B,rfl⟩:=map_some ex;exact both (Fe C.un hp (h C F).1 (h C B).1) λ_=>rfl
 |Call f args kws cp=>
  cases kws with
  |cons=>cases ex
  |nil=>
   cases f with
   |Name f _=>exact xx h hs C ex
   |Attribute o m ap=>
    obtain⟨H,ex⟩:=fW ex;simp only[and_eq_true,decide_eq_true_eq] at H;obtain⟨o',F,ex⟩:=bs ex;rcases FD ex with⟨hpm,ex⟩|ex
    .cases args with
     |nil=>cases ex;exact both (Bm hpm H.1.2 (dN H.1.1 _ _) (h C F).1) λ_=>rfl
     |cons a0 as0=>obtain⟨a,U,ex⟩:=bs ex;obtain⟨J,ex⟩:=fW ex;cases ex;cases cN U;obtain⟨_,_,rfl⟩:=pN J;exact both (Bn hpm H.1.2 (dN H.1.1 _ _) (h C F).1) λ_=>rfl
    rcases FD ex with⟨hgm,ex⟩|ex
    .subst hgm;rcases n4 ex with⟨b,hb,ex⟩|⟨_,ex⟩
     .obtain⟨b',B,rfl⟩:=map_some ex;cases cN hb;exact both (yE C H.1.2 (dN H.1.1 _ _) (ck B [] _) (h C F).1 (h C B).1) λ_=>rfl
     obtain⟨z,J,ex⟩:=bs ex;obtain⟨b',B,ex⟩:=bs ex;obtain⟨c',I,rfl⟩:=map_some ex;cases gI J;exact both (Bv C H.1.2 (dN H.1.1 _ _) (ck B _ _) (ck I [] _) (h C F).1 (h C B).1 (h C I).1) λ_=>rfl
    obtain⟨as',B,rfl⟩:=map_some ex;exact both (yC C H.1.2 H.2 (dN H.1.1 _ _) (h C F).1<|hs C B) λ_=>rfl
   |_=>cases ex
 |ListComp elt gens scope pos=>obtain⟨xs,t,it,ifs,rfl,hcm,hk,hd⟩:=rP h C ex;exact both (hd.pe C hcm hk) λ_=>rfl
 |Attribute o f _=>obtain⟨hf,ex⟩:=fW ex;obtain⟨o',ho,rfl⟩:=map_some ex;exact both (Dv C (dN hf _ _) (h C ho).1) λ_=>rfl
 |_=>cases ex
theorem sound(T:Tab)(g:eX):∀n,SE T g n/\DN T g n/\SD T g n
 |0=>⟨λC h=>(by cases h),λC h=>(by cases h),λpos C h=>(by cases h)⟩
 |n+1=>by obtain⟨a,b,d⟩:=sound T g n;exact⟨xw a b d,ut a b,xy (λC e=>(a C e).1) d⟩
noncomputable def isLocal(sc:Scope)(x:Str):Bool:=sc.names.lookup x==some .local||sc.names.lookup x==some .cell
noncomputable def vE:Expr->Bool
 | .ListComp .. =>true
 |_=>false
noncomputable def kg(s:Str):Bool:=s== "append"
noncomputable def C_:Expr->Bool
 | .Name .. =>true
 | .Call .. =>true
 | .Subscript .. =>true
 |_=>false
noncomputable def zg(ts:List Expr):Expr->Bool
 | .Tuple es _ _=>decide<|ts.length=4
 |_=>false
noncomputable def yn:Expr->Bool
 | .Name .. =>true
 | .Call .. =>true
 | .Subscript .. =>true
 | .Constant .. =>true
 | .BinOp .. =>true
 | .Attribute .. =>true
 | .List .. =>true
 | .Tuple .. =>true
 | .Dict .. =>true
 | .UnaryOp .. =>true
 | .Compare .. =>true
 |_=>false
def rZ(sc:Scope)(N:List Str):List Expr->Option (List Nat)
 |[]=>some []
 |e::r=>(x_ e).bind λx=>if isLocal sc x=true then(f6 N x).bind λi=>(rZ sc N r).map λis=>i::is else none
def DL(f:Str->Bool)(e:Expr):Option (Expr×Expr):=(BA e).bind λq=>(DJ q.1.1).bind λr=>(vq q.1.2.2.1).bind λ_=>(one q.1.2.1).bind λa=>if(f r.1.2.1&&(r.1.2.2.endLine==q.1.2.2.2.line)&&fu r.1.1)=true then some (r.1.1,a) else none
theorem wF{f:Str->Bool}{z:Expr×Expr}(h:DL f e=some z):∃m ap cp,e= .Call (.Attribute z.1 m ap) [z.2] [] cp/\(f m&&(ap.endLine==cp.line)&&fu z.1)=true:=by
 obtain⟨⟨⟨g,as,ks,cp⟩,rfl⟩,_,h⟩:=bs h;obtain⟨⟨⟨o,m,ap⟩,c⟩,_,h⟩:=bs h;obtain⟨⟨_,h1⟩,_,h⟩:=bs h;obtain⟨a,h2,h⟩:=bs h;obtain⟨B,h⟩:=fW h;cases h;exact⟨m,ap,cp,by show Expr.Call g as ks cp= .Call (.Attribute o m ap) [a] [] cp;rw[show g= .Attribute o m ap from c,show as=[a] from cN h2,show ks=[] from h1],B⟩
mutual
noncomputable def cS(T:Tab)(n:Nat)(sc:Scope)(N:List Str)(s:Stmt):Option S:=match n with
 |0=>none
 |n+1=>match s with
  | .Assign ts e _=>(one ts).bind λt=>match t with
   | .Name x _=>if isLocal sc x=true then(f6 N x).bind λi=>(cE T n sc N e).map λe'=>.set i e' else none
   | .Subscript o i _=>if fc i=true/\yn e=true then(cE T n sc N o).bind λo'=>(cE T n sc N i).bind λi'=>(cE T n sc N e).map λe'=>.setix o' i' e' else none
   | .Attribute o f _=>if yn e=true then(cE T n sc N o).bind λo'=>(cE T n sc N e).map λe'=>.setf o' f e' [] (T.ics f) else none
   | .Tuple ts _ _=>if T.calm=true then(rZ sc N ts).bind λis=>(cE T n sc N e).bind λe'=>if C_ e=true∨zg ts e=true then some (.unp is e') else none else none
   |_=>none
  | .Return o _=>(match o with
   |some e=>some ((cE T n sc N e).elim .stop .ret)
   |none=>none)
  | .Expr e _=>(DL kg e).bind λq=>(cE T n sc N q.1).bind λo'=>(cE T n sc N q.2).map λe'=>.app o' e'
  | .Continue _=>some .cont
  | .AugAssign t op e _=>(match t with
   | .Subscript o i _=>(match op with
    | .Add=>if fc i=true then(cE T n sc N o).bind λo'=>(cE T n sc N i).bind λi'=>(cE T n sc N e).map λe'=>.augx o' i' e' else none
    |_=>none)
   |_=>none)
  | .If c a b _=>(cE T n sc N c).bind λc'=>(zp T n sc N a).bind λa'=>(zp T n sc N b).map λb'=>.ite c' a' b'
  | .For t it body els _=>(match els with
   |[]=>(match t with
   | .Name x _=>if isLocal sc x=true/\T.calm=true then(f6 N x).bind λi=>(zp T n sc N body).bind λb'=>(xD sc it).elim ((rng2 sc it).elim ((vz "values" it).elim ((cE T n sc N it).map λa'=>.for_ i false a' b') λo=>(cE T n sc N o).map λo'=>.forW i o' b') λa=>(cE T n sc N a).map λa'=>.forD i a' b') λa=>(cE T n sc N a).map λa'=>.for_ i true a' b' else none
   | .Tuple ts _ _=>if T.calm=true then(rZ sc N ts).bind λis=>(zp T n sc N body).bind λb'=>(vt "enumerate" sc it).bind λa=>(cE T n sc N a).map λa'=>.forE is a' b' else none
   |_=>none)
   |_=>none)
  | .While c body els _=>(match els with
   |[]=>(cE T n sc N c).bind λc'=>(zp T n sc N body).map λb'=>.whil c' b'
   |_=>none)
  |_=>none
noncomputable def zp(T:Tab)(n:Nat)(sc:Scope)(N:List Str)(ss:List Stmt):Option (List S):=match n with
 |0=>none
 |n+1=>match ss with
  |[]=>some []
  |s::r=>(zp T n sc N r).map λr'=>(cS T n sc N s).getD .stop::r'
end
end Ev
set_option maxHeartbeats 4000000
namespace L2
open PySem PySem.Spec PyProof.Rows
section
variable{X:Cx}
def CC(K:aF):V->V->Hp->VK->Prop:=λx y H Q=>∃p xs i v,x=.ref p/\y=.int i/\0<=i/\dO K H p xs/\iM xs i=some v/\Q v H
theorem vQ:DP X (CC X.K):=by
 intro pins s W H x y v u Q I F B h;obtain⟨p,xs,i,z,rfl,rfl,h0,U,Z,q⟩:=h;cases F;obtain⟨t,rfl⟩:=B;obtain⟨its,r,J,hz⟩:=I.list U;obtain⟨j,h1,h2,h3,h4,h5⟩:=ng Z;obtain⟨w,ew,c⟩:=r.get h2;have hl:=r.length;have hn:=kb
 have Y:i.toNat=j:=by rw[seqIndex_of h0 h5] at h1;exact ak h1
 exact wpAny_getItem_list J.isList h0 (by omega) (by rw[Y];simpa using ew) ⟨z,H,I,c,q⟩
end
end L2
set_option maxHeartbeats 16000000
namespace Ev
open PySem PySem.Spec PyProof.Rows L2
variable{st st' st0:aU}{f x:Str}{i:Nat}{a' c' e' i' o':Ex}{a c e o:Expr}{b':List S}{is:List Nat}{loc:Loc}{G G0:Nat->Addr}
def dL(K:aF)(Xw:Addr->L2.St->Hp->Prop)(H:Hp)(G:Nat->Addr)(st:aU)(r:R Fl)(D:Ends):Prop:=match r with
 | .ok (.nx loc) st'=>∀H' G' W',Ext H H' G G' st.length st'.length->Sim K H' G' st'->LRel K H' G' st'.length loc W'->D.nx W' H'
 | .ok (.rt d) st'=>∀H' G' v,Ext H H' G G' st.length st'.length->Sim K H' G' st'->VRel K H' G' st'.length d v->D.rt v H'
 | .ok (.ex n loc) st'=>∀H' G' W',Ext H H' G G' st.length st'.length->Sim K H' G' st'->LRel K H' G' st'.length loc W'->Xw (G' n) W' H'
 | .ok (.ct loc) st'=>∀H' G' W',Ext H H' G G' st.length st'.length->Sim K H' G' st'->LRel K H' G' st'.length loc W'->D.ct W' H'
 | .bad=>False
def tS(K:aF)(Xw:Addr->L2.St->Hp->Prop)(m:Loc->M Fl):TS:=λD W H=>∃G st loc,Sim K H G st/\LRel K H G st.length loc W/\dL K Xw H G st (m loc st) D
section
variable{K:aF}{Xw:Addr->L2.St->Hp->Prop}{H:Hp}{G:Nat->Addr}{st:aU}
theorem aX{α:Type}{m:M α}{f:α->M Fl}{D:Ends}(P:dL K Xw H G st (bg m f st0) D):∃a st1,m st0=.ok a st1/\dL K Xw H G st (f a st1) D:=by
 unfold bg at P;cases e:m st0 with
 |ok a st1=>rw[e] at P;exact⟨a,st1,rfl,P⟩
 |bad=>rw[e] at P;exact P.elim
theorem dL.mono{r:R Fl}{D:Ends}{H1:Hp}{G1:Nat->Addr}{st1:aU}(P:dL K Xw H G st r D)(E:Ext H H1 G G1 st.length st1.length):dL K Xw H1 G1 st1 r D:=by
 cases r with
 |ok f st2=>
  cases f with
  |rt d=>exact λH' G' v B z c=>P H' G' v (E.trans B) z c
  |_=>exact λH' G' W' B z c=>P H' G' W' (E.trans B) z c
 |bad=>exact P
end
theorem _root_.L2.PS.imp{X:Cx}{s:Stmt}{t t':TS}(h:PS X s t)(k:∀D W H,t' D W H->t D W H):PS X s t':=λpins s W H D I q=>h pins s W H D I<|k D W H q
theorem _root_.L2.PSs.imp{X:Cx}{s:List Stmt}{t t':TS}(h:PSs X s t)(k:∀D W H,t' D W H->t D W H):PSs X s t':=λpins s W H D I q=>h pins s W H D I<|k D W H q
section
variable{T:Tab}{g:eX}{X:Cx}{sc:Scope}{N:List Str}{pos p2 p3:Pos}{Xw:Addr->L2.St->Hp->Prop}
theorem hV(C:Ctx T g X sc N)(h:isLocal sc x=true):L2.Loc X.env.scope x:=by show X.env.scope.names.lookup x=_∨X.env.scope.names.lookup x=_;rw[C.sc];simpa[isLocal] using h
theorem uR{D:Ends}{W:L2.St}{H:Hp}(h:tS X.K Xw (exec g<|.set i e') D W H):ue (tE X.K<|run g e') (gO i) D W H:=by obtain⟨G,st,loc,S,L,P⟩:=h;obtain⟨d,st1,B,P⟩:=aX P;exact bj S L B λH1 G1 v c F z=>P H1 G1 _ c F<|(L.ext c).set i z
theorem xA{i:Expr}(hu:X.A.units+1<cLine)(hp:fc i=true)(hn:yn e=true)(ho:PE X o (tE X.K<|run g o'))(hi:PE X i (tE X.K<|run g i'))(he:PE X e (tE X.K<|run g e')):PS X (.Assign [.Subscript o i p2] e pos) (tS X.K Xw<|exec g<|.setix o' i' e'):=by
 refine((uZ he (Ax ho hi set_list (λv=>by cases i<;>first|rfl|cases hp)) (by cases e<;>rfl) (by cases e<;>rfl)).or<|xK hu ho hi he (by cases e<;>first|rfl|cases hn)).imp λD W H hp=>?_
 obtain⟨G,st,loc,S,L,P⟩:=hp;obtain⟨d,st1,e1,P⟩:=aX P;obtain⟨x,st2,e2,P⟩:=aX P;obtain⟨k,B,e3,P⟩:=aX P;obtain⟨u,st4,c,P⟩:=aX P;have sz:sizeLine=16777216:=sizeLine_eq;unfold ip at c;cases x with
 |ref n0=>
  dsimp only at c;split at c
  .rename_i xs q;split at c
   .split at c
    .rename_i j hj;cases c;refine .inl<|bj S L e1 λH1 G1 v Y S1 r1=>bj S1 (L.ext Y) e2 λH2 G2 vx U S2 r2=>bj S2 ((L.ext Y).ext U) e3 λH3 G3 vk J S3 r3=>?_;have F:=r2.ext J;have I:=(r1.ext U).ext J;cases F with
     |ref hn=>
      cases r3;obtain⟨vs,g1,Z⟩:=S3.ob _ _ q;have rr:=Z.set j I;obtain⟨E4,S4⟩:=S3.write q rr;refine⟨_,_,_,j,rfl,rfl,g1,by rw[<-Z.length];exact hj,?_⟩
      have E5:=(Y.trans U).trans J;have z:Ext H3 (upd H3 (G3 n0)<|.lst<|vs.set j v) G3 G3 B.length (B.set n0<|O.lst<|xs.set j d).length:=by rw[aA];exact E4
      exact P _ G3 W (E5.trans z) S4<|((L.ext E5)).ext z
    .cases c
   .cases c
  .rename_i kvs q;split at c
   .rename_i kk hk;split at c
    .rename_i hl;cases c;refine .inr<|bj S L e1 λH1 G1 v Y S1 r1=>bj S1 (L.ext Y) e2 λH2 G2 vx U S2 r2=>bj S2 ((L.ext Y).ext U) e3 λH3 G3 vk J S3 r3=>?_;have F:=r2.ext J;have I:=(r1.ext U).ext J;have hv:=iE hk r3;subst hv;cases F with
     |ref hn=>
      obtain⟨vs,g1,Z⟩:=S3.ob _ _ q;have ll:=Z.length;obtain⟨E4,S4⟩:=S3.writeD q<|Z.put (k:=kk) I;refine⟨_,_,rfl,wO.k (k:=kk) g1 (by omega),?_⟩
      have E5:=(Y.trans U).trans J;have z:Ext H3 (upd H3 (G3 n0)<|.dK<|putK vs kk v) G3 G3 B.length (B.set n0<|O.dct<|bD kvs kk d).length:=by rw[aA];exact E4
      exact P _ G3 W (E5.trans z) S4<|((L.ext E5)).ext z
    .cases c
   .cases c
  .cases c
 |_=>cases c
theorem Cr(B:PE X e (tE X.K<|run g e')):PS X (.Return (some e) pos) (tS X.K Xw<|exec g<|.ret e'):=
 (As B).imp λD W H z=>by obtain⟨G,st,loc,S,L,P⟩:=z;obtain⟨d,st1,F,P⟩:=aX P;exact bj S L F λH1 G1 v J I c=>P H1 G1 v J I c
theorem uA{s₀:Stmt}:PS X s₀ (tS X.K Xw<|exec g .stop):=by intro pins s W H D I h;obtain⟨G,st,loc,S,L,P⟩:=h;exact False.elim P
theorem Cy{m:Str}{ap cp:Pos}(U:kg m=true)(hl:(ap.endLine==cp.line)=true)(z:starEach [e] X.env=[(false,eval e X.env)])(hb:attributeBase o m X.env (eval o X.env)=eval o X.env)(ho:PE X o (tE X.K<|run g o'))(he:PE X e (tE X.K<|run g e')):
  PS X (.Expr (.Call (.Attribute o m ap) [e] [] cp) pos) (tS X.K Xw<|exec g<|.app o' e'):=by
 have U:m= "append":=by simpa[kg] using U
 subst U;refine(xJ<|y_ PySem.F.plainAttrs_list PySem.F.slot_list_append PySem.F.type_list_append lE ho (b_ he dG z) hb (by rw[z];rfl) hl z rfl).imp λD W H hp=>?_
 obtain⟨G,st,loc,S,L,P⟩:=hp;obtain⟨x,st1,e1,P⟩:=aX P;obtain⟨u0,st0,J,P⟩:=aX P;obtain⟨d,B,e2,P⟩:=aX P;obtain⟨u,st3,c,P⟩:=aX P;have sz:sizeLine=16777216:=sizeLine_eq;unfold append at c;split at c
 .rename_i n z1 z0;split at c
  .rename_i xs q;split at c
   .rename_i hz;cases c;simp only[oi] at J;split at J
    .rename_i zs q0;cases J;refine bj S L e1 λH1 G1 vx E1 S1 r1=>?_;cases r1 with
     |ref hn=>
      obtain⟨ws,w1,_⟩:=S1.ob _ _ q0;refine⟨.inl ⟨rfl,ws,dO.of w1⟩,bj S1 (L.ext E1) e2 λH2 G2 v E2 S2 r2=>?_⟩;obtain⟨vs,Z,Y⟩:=S2.ob _ _ q;have l:=Y.length;have rr:=Y.append<|.cons r2 .nil;obtain⟨E4,S4⟩:=S2.write q rr;rw[E2.ad n hn] at Z E4 S4;refine⟨_,_,_,rfl,rfl,Z,by omega,?_⟩
      have E5:=E1.trans E2;have I:Ext H2 (upd H2 (G1 n)<|.lst<|vs++[v]) G2 G2 B.length (B.set n<|O.lst<|xs++[d]).length:=by rw[aA];exact E4
      exact P _ G2 W (E5.trans I) S4<|(L.ext E5).ext I
    .cases J
   .cases c
  .cases c
 .cases c
theorem vR{x k d:D}(e:getL x k st=.ok d st'):∃n xs j,x=.ref n/\k=.int j/\st[n]? =some (.lst xs)/\0<=j/\iM xs j=some d/\st'=st:=by
 cases x with
 |ref n=>
  unfold getL at e;dsimp only at e;split at e
  .rename_i xs q;split at e
   .rename_i j;split at e
    .rename_i h0;split at e
     .rename_i d' hd;cases e;exact⟨n,xs,j,rfl,rfl,q,h0,hd,rfl⟩
     .cases e
    .cases e
   .cases e
  .cases e
 |_=>cases e
theorem wJ{x y d:D}(e:BH x y st=.ok d st'):∃i j,x=.int i/\y=.int j/\d=.int (i+j)/\st'=st:=by
 unfold BH at e;split at e
 .cases e;exact⟨_,_,rfl,rfl,rfl,rfl⟩
 .cases e
theorem Af{i:Expr}(U:fc i=true)(ho:PE X o (tE X.K<|run g o'))(hi:PE X i (tE X.K<|run g i'))(he:PE X e (tE X.K<|run g e')):PS X (.AugAssign (.Subscript o i p2) .Add e pos) (tS X.K Xw<|exec g<|.augx o' i' e'):=by
 refine(xL ho hi vQ he A5 set_list (λov iv new=>by cases i<;>first|rfl|cases U)).imp λD W H U=>?_
 obtain⟨G,st,loc,S,L,P⟩:=U;obtain⟨x,st1,e1,P⟩:=aX P;obtain⟨k,st2,e2,P⟩:=aX P;obtain⟨y,st3,e3,P⟩:=aX P;obtain⟨z,st4,e4,P⟩:=aX P;obtain⟨w,B,e5,P⟩:=aX P;obtain⟨u,st6,c,P⟩:=aX P;obtain⟨n,xs,j,rfl,rfl,q,h0,hd,rfl⟩:=vR e3;obtain⟨a,b,rfl,rfl,rfl,rfl⟩:=wJ e5;refine bj S L e1 λH1 G1 v1 Z S1 r1=>bj S1 (L.ext Z) e2 λH2 G2 v2 Y S2 r2=>?_;have J:=r1.ext Y;cases J with
 |ref hn=>
  cases r2;obtain⟨vs,g1,g2⟩:=S2.ob _ _ q;obtain⟨v,hv,rv⟩:=rR g2 hd;cases rv;refine⟨_,vs,j,_,rfl,rfl,h0,dO.of g1,hv,bj S2 ((L.ext Z).ext Y) e4 λH4 G4 v4 E4 S4 r4=>?_⟩;cases r4;refine⟨a,b,rfl,rfl,?_⟩;unfold putL at c;dsimp only at c;split at c
  .rename_i ys q4;split at c
   .rename_i I hj;cases c;obtain⟨ws,k1,k2⟩:=S4.ob _ _ q4;obtain⟨E6,S6⟩:=S4.write q4<|k2.set I<|.int<|a+b;rw[E4.ad n hn] at k1 E6 S6;have E5:=(Z.trans Y).trans E4;have F:Ext H4 (upd H4 (G2 n)<|.lst<|ws.set I<|.int<|a+b) G4 G4 B.length (B.set n<|O.lst<|ys.set I<|.int<|a+b).length:=by rw[aA];exact E6
    exact⟨_,ws,j,I,rfl,rfl,k1,by rw[<-k2.length];exact hj,P _ G4 W (E5.trans F) S6<|(L.ext E5).ext F⟩
   .cases c
  .cases c
theorem ED{a b:List Stmt}{a':List S}(J:PT X c (tT X.K<|run g c'))(Y:PSs X a (tS X.K Xw<|execs g a'))(U:PSs X b (tS X.K Xw<|execs g b')):PS X (.If c a b pos) (tS X.K Xw<|exec g<|.ite c' a' b'):=
 (CF J Y U).imp λD W H I=>by
  obtain⟨G,st,loc,S,L,P⟩:=I;obtain⟨x,st1,e1,P⟩:=aX P;obtain⟨i,z,e2,P⟩:=aX P;obtain⟨Z,rfl⟩:=bR e2;have:=cg Z;subst this;refine jk S L e1 λH1 G1 B F=>?_;cases i with
  |true=>rw[if_pos rfl];exact⟨G1,z,loc,F,L.ext B,P.mono B⟩
  |false=>rw[if_neg aQ];exact⟨G1,z,loc,F,L.ext B,P.mono B⟩
theorem z5{body:List Stmt}(hp:PassesOwn (model X.prog X.w) X.A X.env X.xe)(hc:PT X c (tT X.K<|run g c'))(hb:PSs X body (tS X.K Xw<|execs g b')):PS X (.While c body [] pos) (tS X.K Xw<|exec g<|.whil c' b'):=by
 refine(uX hp hc hb).imp λD W H hp=>?_;obtain⟨G,st,loc,S,L,P⟩:=hp;refine⟨λm W2 H2=>∃G2 z loc2,Ext H H2 G G2 st.length z.length/\Sim X.K H2 G2 z/\LRel X.K H2 G2 z.length loc2 W2/\dL X.K Xw H G st (fR (run g c') (execs g b') m loc2 z) D,⟨Be,G,st,loc,Ext.refl _ _ _,S,L,P⟩,?_⟩;rintro m W2 H2 ⟨G2,z,loc2,E2,S2,J,P2⟩;cases m with
 |zero=>exact P2.elim
 |succ m=>
  rw[fR] at P2;obtain⟨x,st3,e3,P3⟩:=aX P2;obtain⟨b,st4,e4,P4⟩:=aX P3;obtain⟨e5,rfl⟩:=bR e4;have:=cg e5;subst this;refine jk S2 J e3 λH3 G3 Y S3=>?_;cases b with
  |false=>rw[if_neg aQ];exact P4 H3 G3 W2 (E2.trans Y) S3<|J.ext Y
  |true=>
   rw[if_pos rfl];refine⟨λW4 F=>∃G4 B loc5,Ext H F G G4 st.length B.length/\Sim X.K F G4 B/\LRel X.K F G4 B.length loc5 W4/\dL X.K Xw H G st (fR (run g c') (execs g b') m loc5 B) D,λW' H' q=>⟨m,aJ _,q⟩,?_⟩;rw[if_pos rfl] at P4;obtain⟨r,Z,e6,P6⟩:=aX P4;refine⟨G3,st4,loc2,S3,J.ext Y,?_⟩;rw[e6];cases r with
   |nx loc3=>exact λF G4 W4 U I L4=>⟨G4,Z,loc3,(E2.trans Y).trans U,I,L4,P6⟩
   |ct loc3=>exact λF G4 W4 U I L4=>⟨G4,Z,loc3,(E2.trans Y).trans U,I,L4,P6⟩
   |rt d=>exact λF G4 w U I r4=>P6 F G4 w ((E2.trans Y).trans U) I r4
   |ex n l=>exact λF G4 W4 U I L4=>P6 F G4 W4 ((E2.trans Y).trans U) I L4
def mP:List Nat->wT
 |[]=>Bc
 |i::is=>rp (gO i)<|mP is
theorem j9(C:Ctx T g X sc N)(c:∀y,X.fn y=true):∀{ts:List Expr}{is:List Nat},rZ sc N ts=some is->BS X ts (mP is)/\(assignEach ts X.env).length=is.length/\(assignEach ts X.env).findIdx? (·.1)=none
 |[],is,h=>by cases h;exact⟨qL,rfl,rfl⟩
 |t::r,is,h=>by
  obtain⟨x,F,h⟩:=bs h;obtain⟨I,h⟩:=fW h;obtain⟨i,hi,h⟩:=bs h;obtain⟨z,H,rfl⟩:=map_some h;obtain⟨B,rfl⟩:=fo F;obtain⟨h1,h2,J⟩:=j9 C c H;refine⟨j5 (eG (i:=i) (by rw[C.n];exact C.nd) (by rw[C.n];exact cM hi) (hV C I)<|.inl<|c x) h1 rfl,?_,?_⟩
  .show(assignEach r X.env).length+1=z.length+1;rw[h2]
  .show(((false,assign (.Name x B) X.env)::assignEach r X.env).findIdx? (·.1))=none;rw[List.findIdx?_cons,J];rfl
theorem j8{K:aF}{H:Hp}{G:Nat->Addr}{m:Nat}{Q:L2.St->Hp->Prop}:∀{is:List Nat}{ds:List D}{vs:List V}{loc:Loc}{W:L2.St},VRels K H G m ds vs->ds.length=is.length->LRel K H G m loc W->(∀W',LRel K H G m (iV is ds loc) W'->Q W' H)->mP is vs W H Q
 |[],_,_,_,_,.nil,_,L,k=>⟨rfl,k _ L⟩
 |i::is,_,_,_,_,.cons (v:=v) (vs:=vs) h t,hl,L,k=>⟨v,vs,rfl,j8 t (by simpa using hl) (L.set i h) k⟩
 |[],_,_,_,_,.cons _ _,hl,_,_=>by simp at hl
 |_::_,_,_,_,_,.nil,hl,_,_=>by simp at hl
theorem Cq{ts:List Expr}{k:Nat}(C:Ctx T g X sc N)(F:T.calm=true)(B:∀y,X.fn y=true)(c:C_ e=true∨zg ts e=true)(ht:rZ sc N ts=some is)(he:PE X e (tE X.K<|run g e')):PS X (.Assign [.Tuple ts k p2] e pos) (tS X.K Xw<|exec g<|.unp is e'):=by
 obtain⟨h1,h2,h3⟩:=j9 C B ht
 have U:swappedStores [.Tuple ts k p2] e X.env=pure none:=by
  rcases c with c|c
  .cases e<;>first|rfl|cases c
  .cases e with
   |Tuple es a b=>
    have h4:ts.length=4:=of_decide_eq_true c;rcases ts with _|⟨a1,_|⟨a2,_|⟨a3,_|⟨a4,_|⟨a5,r⟩⟩⟩⟩⟩<;>first|rfl|(exfalso;simp at h4)
   |_=>cases c
 refine(uZ he (ve (C.calm F) h1 h2 h3) (by cases e<;>first|rfl|(rcases c with c|c<;>cases c)) U).imp λD W H hp=>?_
 obtain⟨G,st,loc,S,L,P⟩:=hp;obtain⟨d,st1,e1,P⟩:=aX P;obtain⟨ds,Y,z,P⟩:=aX P;refine bj S L e1 λH1 G1 v J S1 Z=>?_;unfold items? at z;cases d with
 |tup xs=>
  dsimp only at z;split at z
  .rename_i I;cases z;cases Z with
   |tup hq rw'=>exact⟨_,_,rfl,hq,by rw[<-rw'.length];exact I,j8 rw' I (L.ext J) λW' L'=>P H1 G1 W' J S1 L'⟩
  .cases z
 |_=>cases z
theorem i8{J:It}{s:Src}{H:Hp}{H0:Hp}{W:L2.St}{D:Ends}
  (F:db X.K J s H G st.length)(E0:Ext H0 H G0 G st0.length st.length)(Sm:Sim X.K H G st)(L:LRel X.K H G st.length loc W)(P:dL X.K Xw H0 G0 st0 (fO (λx z=>execs g b'<|z.set i<|some x) s loc st) D):
  ∃Ww:Nat->Nat->L2.St->Hp->Prop,(∃m,Ww 0 m W H)/\∀k m W H,Ww k m W H->
   (J.stop k H/\D.nx W H)∨(J.go k H/\∃Nn:L2.St->Hp->Prop,(∀W' H',Nn W' H'->∃m',m'<m/\Ww (k+1) m' W' H')/\∀x H',J.yld k H x H'->gO i x W H' λW2 U=>tS X.K Xw (execs g b') {D with nx:=Nn,ct:=Nn,bk:=D.nx} W2 U):=by
 refine⟨λk m W2 U=>∃G2 c loc2,Ext H U G G2 st.length c.length/\Sim X.K U G2 c/\LRel X.K U G2 c.length loc2 W2/\dL X.K Xw H0 G0 st0 (i9 (λx z=>execs g b'<|z.set i<|some x) s m k loc2 c) D,⟨bG s st+1,G,st,loc,Ext.refl _ _ _,Sm,L,P⟩,?_⟩;rintro k m W2 U ⟨G2,c,loc2,E2,S2,L2',Z⟩;obtain⟨c1,c2⟩:=F U G2 c k E2 S2;cases m with
 |zero=>exact Z.elim
 |succ m=>
  simp only[i9] at Z;cases en:nxt s k c with
  |none=>rw[en] at Z;exact Z.elim
  |some ox=>
   rw[en] at Z;cases ox with
   |none=>exact .inl ⟨c1 en,Z U G2 W2 (E0.trans E2) S2 L2'⟩
   |some x=>
    obtain⟨hgo,hyl⟩:=c2 x en;refine .inr ⟨hgo,λW3 I=>∃G3 B loc3,Ext H I G G3 st.length B.length/\Sim X.K I G3 B/\LRel X.K I G3 B.length loc3 W3/\dL X.K Xw H0 G0 st0 (i9 (λx z=>execs g b'<|z.set i<|some x) s m (k+1) loc3 B) D,λW' H' q=>⟨m,aJ _,q⟩,λv H' y=>?_⟩;obtain⟨rfl,rv⟩:=hyl v H' y;obtain⟨r,B,e3,P3⟩:=aX Z;refine⟨G2,c,loc2.set i<|some x,S2,L2'.set i rv,?_⟩;rw[e3];cases r with
    |nx loc3=>exact λI G3 W3 E3 Y L3=>⟨G3,B,loc3,E2.trans E3,Y,L3,P3⟩
    |ct loc3=>exact λI G3 W3 E3 Y L3=>⟨G3,B,loc3,E2.trans E3,Y,L3,P3⟩
    |rt d=>exact λI G3 w E3 Y r3=>P3 I G3 w ((E0.trans E2).trans E3) Y r3
    |ex n l=>exact λI G3 W3 E3 Y L3=>P3 I G3 W3 ((E0.trans E2).trans E3) Y L3
theorem rC{f:D->Loc->M Fl}(n:Nat)(st:aU)(h:∀xs,st[n]?≠some (.lst xs)):fO f (.at n) loc st=.bad:=by unfold fO;simp only[i9,qP h]
theorem rA{J:It}{s:Src}{H:Hp}{H0:Hp}{W:L2.St}{D:Ends}
  (F:eA X.K J s H G st.length)(E0:Ext H0 H G0 G st0.length st.length)(Sm:Sim X.K H G st)(L:LRel X.K H G st.length loc W)(P:dL X.K Xw H0 G0 st0 (fO (λx B=>bg (items? is.length x) λds=>execs g b'<|iV is ds B) s loc st) D):
  ∃Ww:Nat->Nat->L2.St->Hp->Prop,(∃m,Ww 0 m W H)/\∀k m W H,Ww k m W H->
   (J.stop k H/\D.nx W H)∨(J.go k H/\∃Nn:L2.St->Hp->Prop,(∀W' H',Nn W' H'->∃m',m'<m/\Ww (k+1) m' W' H')/\∀x H',J.yld k H x H'->Dk X.K is.length (mP is) x W H' λW2 U=>tS X.K Xw (execs g b') {D with nx:=Nn,ct:=Nn,bk:=D.nx} W2 U):=by
 refine⟨λk m W2 U=>∃G2 c loc2,Ext H U G G2 st.length c.length/\Sim X.K U G2 c/\LRel X.K U G2 c.length loc2 W2/\dL X.K Xw H0 G0 st0 (i9 (λx B=>bg (items? is.length x) λds=>execs g b'<|iV is ds B) s m k loc2 c) D,⟨bG s st+1,G,st,loc,Ext.refl _ _ _,Sm,L,P⟩,?_⟩;rintro k m W2 U ⟨G2,c,loc2,E2,S2,L2',Z⟩;obtain⟨c1,c2⟩:=F U G2 c k E2 S2;cases m with
 |zero=>exact Z.elim
 |succ m=>
  simp only[i9] at Z;cases en:nxt s k c with
  |none=>rw[en] at Z;exact Z.elim
  |some ox=>
   rw[en] at Z;cases ox with
   |none=>exact .inl ⟨c1 en,Z U G2 W2 (E0.trans E2) S2 L2'⟩
   |some x=>
    obtain⟨hgo,hyl⟩:=c2 x en;refine .inr ⟨hgo,λW3 I=>∃G3 z loc3,Ext H I G G3 st.length z.length/\Sim X.K I G3 z/\LRel X.K I G3 z.length loc3 W3/\dL X.K Xw H0 G0 st0 (i9 (λx B=>bg (items? is.length x) λds=>execs g b'<|iV is ds B) s m (k+1) loc3 z) D,λW' H' q=>⟨m,aJ _,q⟩,λv H' y=>?_⟩;obtain⟨EH,SH,rv⟩:=hyl v H' y;have EH2:=E2.trans EH;have L3':=L2'.ext EH;obtain⟨r,z,e3,P3⟩:=aX Z;unfold items? at e3;cases x with
    |tup xs=>
     by_cases hl:xs.length=is.length
     .have e4:execs g b' (iV is xs loc2) c=.ok r z:=by simp only[bg,if_pos hl] at e3;exact e3
      cases rv with
      |tup hq rw'=>
       refine⟨_,_,rfl,hq,by rw[<-rw'.length];exact hl,j8 rw' hl L3' λW' L'=>⟨G2,c,iV is xs loc2,SH,L',?_⟩⟩
       rw[e4];cases r with
       |nx loc3=>exact λI G3 W3 E3 Y L3=>⟨G3,z,loc3,EH2.trans E3,Y,L3,P3⟩
       |ct loc3=>exact λI G3 W3 E3 Y L3=>⟨G3,z,loc3,EH2.trans E3,Y,L3,P3⟩
       |rt d=>exact λI G3 w E3 Y r3=>P3 I G3 w ((E0.trans EH2).trans E3) Y r3
       |ex n l=>exact λI G3 W3 E3 Y L3=>P3 I G3 W3 ((E0.trans EH2).trans E3) Y L3
     .simp only[bg,if_neg hl] at e3;cases e3
    |_=>cases e3
theorem oK{f:D->Loc->M Fl}(n:Nat)(st:aU)(h:∀xs,st[n]?≠some (.lst xs)):fO f (.en n) loc st=.bad:=by
 have c:nxt (.en n) 0 st=none:=by simp only[nxt]
 unfold fO;simp only[i9,c]
theorem z_(U:PassesOwn (model X.prog X.w) X.A X.env X.xe)(C:Ctx T g X sc N)(F:T.calm=true){ts:List Expr}{tk:Nat}{body:List Stmt}{p3 p4:Pos}(Y:∀y,X.fn y=true)(ht:rZ sc N ts=some is)(hg:bH sc "enumerate"=true)(B:starEach [a] X.env=[(false,eval a X.env)])(ha:PE X a (tE X.K<|run g a'))(hb:PSs X body (tS X.K Xw<|execs g b')):
  PS X (.For (.Tuple ts tk p2) (.Call (.Name "enumerate" p3) [a] [] p4) body [] pos) (tS X.K Xw<|exec g<|.forE is a' b'):=by
 obtain⟨h1,h2,h3⟩:=j9 C Y ht;refine(j3 U (C.calm F) (nW (iG C hg) (C.blt _ (by decide+kernel)) (b_ ha dG B) B) (ve (C.calm F) h1 h2 h3) hb<|λ_=>rfl).imp λD W H U=>?_
 obtain⟨G,st,loc,S,L,P⟩:=U;obtain⟨d,st1,e1,P⟩:=aX P;obtain⟨s,c,e2,P⟩:=aX P;obtain⟨Z,rfl⟩:=bR e2;refine bj S L e1 λH1 G1 v I S1 r1=>?_;have J:=r1;cases r1 with
 |tup h r=>cases Z;exact⟨_,rfl,.inr ⟨⟨_,h⟩,rA (eA.enT J) I S1 (L.ext I) P⟩⟩
 | @ref n hn=>
  cases Z;cases q:c[n]? with
  |none=>
   rw[oK n c (λxs z=>by rw[q] at z;cases z)] at P
   exact P.elim
  |some o=>
   cases o with
   |lst xs=>obtain⟨vs,h1,_⟩:=S1.ob n _ q;exact⟨_,rfl,.inl ⟨⟨vs,dO.of h1⟩,rA (eA.en hn) I S1 (L.ext I) P⟩⟩
   |_=>
    rw[oK n c (λxs z=>by rw[q] at z;cases z)] at P
    exact P.elim
 |_=>cases Z
theorem Cu(J:PassesOwn (model X.prog X.w) X.A X.env X.xe)(C:Ctx T g X sc N)(Y:T.calm=true){it:Expr}{body:List Stmt}(hx:isLocal sc x=true)(U:∀y,X.fn y=true)(hi:f6 N x=some i)(ha:PE X it (tE X.K<|run g a'))(hf:∀v,foldedSetIterable it X.env v=pure v)(hb:PSs X body (tS X.K Xw<|execs g b')):
  PS X (.For (.Name x p2) it body [] pos) (tS X.K Xw<|exec g<|.for_ i false a' b'):=by
 refine(j3 J (C.calm Y) (vc ha) (eG (i:=i) (by rw[C.n];exact C.nd) (by rw[C.n];exact cM hi) (hV C hx)<|.inl<|U x) hb hf).imp λD W H J=>?_
 obtain⟨G,st,loc,S,L,P⟩:=J;obtain⟨d,st1,e1,P⟩:=aX P;obtain⟨s,c,e2,P⟩:=aX P;obtain⟨F,rfl⟩:=bR e2;refine bj S L e1 λH1 G1 v B I Z=>?_;cases Z with
 |tup h r=>cases F;exact⟨_,rfl,.inr ⟨⟨_,h⟩,i8 (db.tup h r) B I (L.ext B) P⟩⟩
 |fl h r=>cases F;exact⟨_,rfl,.inl ⟨⟨_,h.sql⟩,i8 (db.fl h r) B I (L.ext B) P⟩⟩
 | @ref n hn=>
  cases F;cases q:c[n]? with
  |none=>
   rw[rC n c (λxs z=>by rw[q] at z;cases z)] at P
   exact P.elim
  |some o=>
   cases o with
   |lst xs=>obtain⟨vs,h1,_⟩:=I.ob n _ q;exact⟨_,rfl,.inl ⟨⟨vs,dO.of h1⟩,i8 (db.ref hn) B I (L.ext B) P⟩⟩
   |_=>
    rw[rC n c (λxs z=>by rw[q] at z;cases z)] at P
    exact P.elim
 |_=>cases F
theorem z9(B:PassesOwn (model X.prog X.w) X.A X.env X.xe)(C:Ctx T g X sc N)(J:T.calm=true){body:List Stmt}(hx:isLocal sc x=true)(I:∀y,X.fn y=true)(hi:f6 N x=some i)(hg:bH sc "range"=true)(c:starEach [a] X.env=[(false,eval a X.env)])(ha:PE X a (tE X.K<|run g a'))(hb:PSs X body (tS X.K Xw<|execs g b')){p4:Pos}:
  PS X (.For (.Name x p2) (.Call (.Name "range" p3) [a] [] p4) body [] pos) (tS X.K Xw<|exec g<|.for_ i true a' b'):=by
 have F:Gl X "range":=by show X.env.scope.names.lookup _=some .globalImplicit;rw[C.sc];simpa[bH] using hg
 refine(j3 B (C.calm J) (lA F (C.blt _ (by decide+kernel)) (b_ ha dG c) c) (eG (i:=i) (by rw[C.n];exact C.nd) (by rw[C.n];exact cM hi) (hV C hx)<|.inl<|I x) hb).imp λD W H B=>?_
 obtain⟨G,st,loc,S,L,P⟩:=B;obtain⟨d,st1,e1,P⟩:=aX P;obtain⟨s,Y,e2,P⟩:=aX P;obtain⟨z,rfl⟩:=bR e2;refine bj S L e1 λH1 G1 v U S1 Z=>?_;cases Z with
 |int j=>
  simp only[eQ] at z;split at z
  .rename_i hj;cases z;exact⟨j,rfl,by omega,by omega,i8 db.rng U S1 (L.ext U) P⟩
  .cases z
 |_=>cases z
theorem Aa(F:PassesOwn (model X.prog X.w) X.A X.env X.xe)(C:Ctx T g X sc N)(J:T.calm=true){b:Expr}{body:List Stmt}(hx:isLocal sc x=true)(I:∀y,X.fn y=true)(hi:f6 N x=some i)(hg:bH sc "range"=true)(B:starEach [a,b,c] X.env=(false,eval a X.env)::starEach [b,c] X.env)(h1:om b=true)(h2:om c=true)
  (ha:PE X a (tE X.K<|run g a'))(hb:PSs X body (tS X.K Xw<|execs g b')){p4:Pos}:PS X (.For (.Name x p2) (.Call (.Name "range" p3) [a,b,c] [] p4) body [] pos) (tS X.K Xw<|exec g<|.forD i a' b'):=by
 obtain⟨_,_,_,rfl⟩:=kf h1;obtain⟨_,_,_,rfl⟩:=kf h2;refine(j3 F (C.calm J) (xO (iG C hg) (C.blt _ (by decide+kernel)) (b_ ha (b_ (qM l9 g_) (b_ (qM l9 g_) dG rfl) rfl) B) B λ_=>rfl) (eG (i:=i) (by rw[C.n];exact C.nd) (by rw[C.n];exact cM hi) (hV C hx)<|.inl<|I x) hb).imp λD W H F=>?_
 obtain⟨G,st,loc,S,L,P⟩:=F;obtain⟨d,st1,e1,P⟩:=aX P;obtain⟨s,Z,e3,P⟩:=aX P;obtain⟨z,rfl⟩:=bR e3;refine bj S L e1 λH1 G1 v Y S1 r1=>?_;unfold mm at z;split at z
 .split at z
  .rename_i U;cases z;cases r1;exact⟨1,rfl,1,rfl,_,rfl,U.1,U.2,i8 db.down Y S1 (L.ext Y) P⟩
  .cases z
 .cases z
theorem Ad:PS X (.Continue pos) (tS X.K Xw<|exec g .cont):=nV.imp λD W H c=>by obtain⟨G,st,loc,S,L,P⟩:=c;exact P H G W (Ext.refl _ _ _) S L
end
section
variable{T:Tab}{g:eX}{X:Cx}{sc:Scope}{N:List Str}{pos p2:Pos}{Xw:Addr->L2.St->Hp->Prop}
theorem A6{c:Str}{fs:List (Str×D)}{d:D}{v:V}{n:Nat}{H:Hp}(C:Ctx T g X sc N)(S:Sim X.K H G st)(q:st[n]? =some (.ins c fs))(Z:c∈T.ics f)(hl:fs.length<900)(r:VRel X.K H G st.length d v):
  ∃B dx vs,H (G n)=some (.ins B dx vs)/\Cls X.K B/\fJ X.K B f/\vs.length<1000/\Ext H (upd H (G n)<|.ins B dx<|dY f v vs) G G st.length (st.set n<|O.ins c<|putD f d fs).length/\Sim X.K (upd H (G n)<|.ins B dx<|dY f v vs) G (st.set n<|.ins c<|putD f d fs):=by
 obtain⟨J,hi,rfl,Y⟩:=qU Z;obtain⟨B,I,cl,na,_⟩:=C.icl J hi;obtain⟨C1,dx,vs,F,h1,h2,h3⟩:=S.ob n _ q;rw[I] at F;cases F;have lw:=h2.length
 have X0:Ext0 H (upd H (G n)<|.ins B dx<|dY f v vs) G G st.length st.length:=by
  refine⟨aa _,λ_ _=>rfl,λb zs z=>?_,λb ob w z=>?_⟩
  .rw[aI<|cm z h1 (by intro y;cases y)];exact z
  .rw[aI<|cm z h1 (by intro y;cases y)];exact z
 have U:(putD f d fs).length<=900:=by have:=fZ f v vs;have:=(h2.put (f:=f) r).length;omega
 obtain⟨E4,S4⟩:=S.put (ho:= .ins B dx<|dY f v vs) (o':= .ins J.x<|putD f d fs) q ⟨B,dx,dY f v vs,I,bf,(h2.put r).ext0 X0,U⟩;exact⟨B,dx,vs,h1,cl,na f Y,by omega,by rw[aA];exact E4,S4⟩
theorem z6(C:Ctx T g X sc N)(hn:yn e=true)(ho:PE X o (tE X.K<|run g o'))(he:PE X e (tE X.K<|run g e')):PS X (.Assign [.Attribute o f p2] e pos) (tS X.K Xw<|exec g<|.setf o' f e' []<|T.ics f):=by
 refine(Au ho he (by cases e<;>first|rfl|cases hn)).imp λD W H hp=>?_
 obtain⟨G,st,loc,S,L,P⟩:=hp;obtain⟨d,st1,e1,P⟩:=aX P;obtain⟨x,Z,e2,P⟩:=aX P;obtain⟨u,Y,z,P⟩:=aX P;unfold nS at z;cases x with
 |ref n=>
  dsimp only at z;split at z
  .rename_i c fs q;split at z
   .rename_i F;cases z;refine bj S L e1 λH1 G1 v U S1 r1=>bj S1 (L.ext U) e2 λH2 G2 vx J S2 r2=>?_;have B:=U.trans J;cases r2 with
    |ref hnn=>obtain⟨C0,dx,vs,h1,cl,na,lz,I,S4⟩:=A6 C S2 q F.2 F.1<|r1.ext J;exact⟨_,C0,dx,vs,rfl,h1,cl,na,lz,P _ G2 W (B.trans I) S4<|L.ext<|B.trans I⟩
   .cases z
  .cases z
 |_=>cases z
end
end Ev
set_option maxHeartbeats 4000000
namespace L2
open PySem PySem.Spec PyProof.Rows
noncomputable def Fv(o:Obj)(d:Addr)(kvs:List (Key×V)):It:=
 ⟨λi H=>H d=some (.frz o<|.dK kvs)/\∃p,kvs[i]? =some p,
  λi H v H'=>H'=H/\∃p,kvs[i]? =some p/\v=p.2,
  λi H=>H d=some (.frz o<|.dK kvs)/\kvs.length<=i⟩
noncomputable def FL(o:Obj)(it d:Addr)(i:Nat)(h:Heap):Prop:=∃es ep,o.data=.dict es ep/\h.IsValIter it d i es.size ep
theorem o9{P:Program}{w:World}{K:aF}{tg:Expr}(o:Obj)(d it:Addr)(kvs:List (Key×V)):Turn P w K tg (Fv o d kvs) [it] it (FL o it d) where
 mem:=by simp
 obj:=λi h ⟨es,ep,_,Y,ho,_,hd⟩ b hb=>by
  have:b=it:=by simpa using hb
  subst this;exact⟨Y,ho,λv z=>by rw[hd] at z;cases z⟩
 keep:=λi h h' ⟨es,ep,hd,Y,ho,r⟩ kk=>⟨es,ep,hd,Y,kk it (by simp) _ ho,r⟩
 item:=by
  intro X hP hw hK U i pins s W H E I Z st hg;subst hP hw hK;obtain⟨es,ep,hd,F⟩:=st;obtain⟨e,p,hp⟩:=hg;obtain⟨vs,r,da,B,ho⟩:=mj I e hd;obtain⟨u,hu,ru⟩:=r.get2 hp;obtain⟨f0,f1,f2,f3,f4,f5⟩:=Z it (by simp)
  rw[<-B] at F;refine wpAny_pyNext_values_item F da hu λh' J hs'=>?_
  replace hs':Heap.SameBut it s.heap h':=hs'
  obtain⟨Y,ho,hcl,hda⟩:=id J;refine⟨_,rfl,oH (s:={s with heap:=h'}) (n:= "dict_valueiterator") ho hcl hda (by decide) ⟨p.2,H,I.turned (t':=s.toks) (λc q U e=>hs'.extBut c q U e) f0 f1 f3 f4 f5,ru,⟨rfl,p,hp,rfl⟩,⟨es,ep,hd,by rw[<-B];exact J⟩,λc U=>(Z c U).1⟩⟩
 done:=by
  intro X hP hw hK U i pins s W H E I Z st hg;subst hP hw hK;obtain⟨es,ep,hd,F⟩:=st;obtain⟨e,hl⟩:=hg;obtain⟨vs,r,da,B,ho⟩:=mj I e hd;have lv:=r.length;obtain⟨f0,f1,f2,f3,f4,f5⟩:=Z it (by simp)
  rw[<-B] at F;exact wpAny_pyNext_values_end (I.ok.hd U) F da (a_ (by omega)) λh' eb=>⟨rfl,I.turned (t':=s.toks) (λb o hb e=>eb b o hb e) f0 f1 f3 f4 f5⟩
 self:=λ_ _ _ _ _ ⟨es,ep,_,st⟩ h=>wpAny_pyIter_valiter st h
def De(X:Cx)(td:TE):TI:=λW H R=>td W H λx H1=>∃a kvs,x=.ref a/\H1 a=some (.dK kvs)/\∀o,(∀o' w,X.H₀ a≠some (.frz o' w))->R (Fv o a kvs) (upd H1 a<|.frz o<|.dK kvs)
theorem xN{X:Cx}{tg:Expr}{ap cp:Pos}{o:Expr}{td:TE}(ho:PE X o td)(Y:attributeBase o "values" X.env (eval o X.env)=eval o X.env)(hl:(ap.endLine==cp.line)=true):
  PI X tg (.Call (.Attribute o "values" ap) [] [] cp) (De X td):=by
 intro pins s W H R I h;refine wpAny_Call_method0_late Y hl<|bZ (ho pins s W H _ I h) λv c hp=>?_;obtain⟨x,H1,U,r1,a,kvs,ex,hd,q1⟩:=hp;subst ex;obtain rfl:v=Value.ref a:=r1;obtain⟨ob,es,ep,vs0,g1,g2,g3,g4,g5,g6,lo⟩:=p8<|U.hok a _ hd;obtain⟨z,hs,vs,rel,dd⟩:=oN U.hok hd;obtain⟨t1,t2,_⟩:=mB U<|.inl ⟨kvs,.inl hd⟩;have nf:=U.nofrzD hd;refine⟨"dict","dict.values",PySem.F.plainAttrs_dict,PySem.F.slot_dict_values,PySem.F.type_dict_values,t1,t2,Calls.callWith_builtin rfl<|PySem.evalArgs_none ?_⟩;refine call_meetsIn PySem.F.slot_dict_values t1 PySem.F.entry_dict_values (PySem.F.args_dict_values_1 _) (meets_dict_values (bF X.prog X.w) a hs) ⟨⟨vs,dd⟩,?_⟩;obtain⟨ep',J⟩:=(dd.push {cls:= .type "dict_values",data:= .fields #[.ref a]}).dictAt;have B:=J;obtain⟨od,es',d1,d2,d3,d4,d5,d6⟩:=B;rw[ah _ g1] at d1;cases d1;rw[g3] at d3;cases d3;have lv:vs.length=es.size:=by have:=d5.length;simp at this;omega
 refine wpAny_pyIter_values ⟨_,aC _ rfl,rfl,rfl⟩ J ?_;have Z:=((U.freezeD hd g1).kept (t':=c.toks) (h':=c.heap.push {cls:= .type "dict_values",data:= .fields #[.ref a]}) λb q z=>ah _ z);have I3:=Z.kept (t':=c.toks) (h':=(c.heap.push {cls:= .type "dict_values",data:= .fields #[.ref a]}).push {cls:= .type "dict_valueiterator",data:= .fields #[.ref a,.int 0 0,.int vs.length 0,.int ep 0]}) λb q z=>ah _ z;refine⟨_,[(c.heap.push {cls:= .type "dict_values",data:= .fields #[.ref a]}).objs.size],_,_,_,rfl,I3,o9 ob a _ kvs,⟨es,ep,g3,?_⟩,λb Y=>?_,q1 ob nf⟩
 .rw[<-lv];exact⟨_,aC _ rfl,rfl,rfl⟩
 .have eb:b=(c.heap.push {cls:= .type "dict_values",data:= .fields #[.ref a]}).objs.size:=by simpa using Y
  subst eb;exact Z.fpOk (aa _)<|Z.hok.fresh<|aa _
end L2
set_option maxHeartbeats 16000000
namespace Ev
open PySem PySem.Spec PyProof.Rows L2
variable{f i m n:Nat}{a b st:aU}{g:eX}{N cs:List Str}{w:World}{P:Program}{α:Type}{d v x y:D}{args es:List Ex}{c e:Ex}{loc:Loc}{L xs:List D}{kvs:List (Key×D)}{hi lo:Option Int}{o:O}
section
variable{T:Tab}{g:eX}{X:Cx}{sc:Scope}{N:List Str}{pos p2:Pos}{Xw:Addr->L2.St->Hp->Prop}
theorem sy{D:Ends}{H H1:Hp}{G G1:Nat->Addr}{st1:aU}{kvs:List (Key×Ev.D)}{vs:List (Key×V)}{J:Obj}{f:M Fl}(E1:Ext H H1 G G1 st.length st1.length)(hn:n<st1.length)(g1:H1 (G1 n)=some (.dK vs))(nf:∀o w,X.H₀ (G1 n)≠some (.frz o w))
  (P:dL X.K Xw H G st (bg f (λr=>ub n r)<|st1.set n<|.dcf kvs) D):dL X.K Xw (upd H1 (G1 n)<|.frz J<|.dK vs) G1 (st1.set n<|.dcf kvs) (f<|st1.set n<|.dcf kvs) (D.thaw X):=by
 have ls:(st1.set n<|.dcf kvs).length=st1.length:=aA ..;obtain⟨r,c,e3,P⟩:=aX P;rw[e3];unfold ub at P;cases q3:c[n]? with
 |none=>rw[q3] at P;exact P.elim
 |some o3=>
  rw[q3] at P;cases o3 with
  |dcf kvs3=>
   have key:∀{F:Hp}{G3:Nat->Addr},Ext (upd H1 (G1 n)<|.frz J<|.dK vs) F G1 G3 (st1.set n<|.dcf kvs).length c.length->Sim X.K F G3 c->F (G1 n)=some (.frz J<|.dK vs)/\Ext H (upd F (G1 n)<|.dK vs) G G3 st.length (c.set n<|.dct kvs3).length/\Sim X.K (upd F (G1 n)<|.dK vs) G3 (c.set n<|.dct kvs3):=λ{F G3} B U=>by
    rw[ls] at B;obtain⟨ob3,vs3,k1,k2⟩:=U.thaw q3;have ad:G3 n=G1 n:=B.ad n hn;have z:=B.fz _ _ _ (bf:upd H1 (G1 n) (.frz J<|.dK vs) (G1 n)=_);rw[ad] at k1 k2;rw[k1] at z;cases z;exact⟨k1,by rw[aA];exact E1.trans<|B.thaw hn g1,k2⟩
   cases r with
   |nx loc3=>
    intro F G3 W3 B U L3;obtain⟨I,Z,Y⟩:=key B U;exact⟨G1 n,J,vs,I,nf,P _ G3 W3 Z Y (by rw[aA];exact L3.thw<|Thw.of I)⟩
   |ct loc3=>
    intro F G3 W3 B U L3;obtain⟨I,Z,Y⟩:=key B U;exact⟨G1 n,J,vs,I,nf,P _ G3 W3 Z Y (by rw[aA];exact L3.thw<|Thw.of I)⟩
   |rt d=>
    intro F G3 w B U r3;obtain⟨I,Z,Y⟩:=key B U;exact⟨G1 n,J,vs,I,nf,P _ G3 w Z Y (by rw[aA];exact r3.thw<|Thw.of I)⟩
   |ex n l=>exact P.elim
  |_=>exact P.elim
theorem db.dv{K:aF}{F:Hp}{G0:Nat->Addr}{m0:Nat}{o:Obj}{vs:List (Key×V)}(U:n<m0)(h0:F (G0 n)=some (.frz o<|.dK vs)):db K (Fv o (G0 n) vs) (.dv n) F G0 m0:=λH G st i E S=>by
 simp only[nxt];cases q:st[n]? with
 |none=>exact⟨λe=>(by cases e),λx e=>(by cases e)⟩
 |some ob=>
  have rel:=S.ob n ob q;rw[E.ad n U] at rel;cases ob with
  |dcf kvs=>
   obtain⟨o',J,h1,r⟩:=rel;have z:=E.fz _ _ _ h0;rw[h1] at z;cases z;have l:=r.length;refine⟨λe=>?_,λx e=>?_⟩
   .have e:kvs[i]?.map (λp=>p.2)=none:=ak e;have e:kvs[i]? =none:=by simpa using e
    exact⟨h1,by have:=List.getElem?_eq_none_iff.mp e;omega⟩
   .have e:=ak e;cases e2:kvs[i]? with
    |none=>rw[e2] at e;cases e
    |some p=>rw[e2] at e;have e:p.2=x:=ak e;subst e;obtain⟨v,B,rv⟩:=r.at_ e2;refine⟨⟨h1,_,B⟩,λw H' I=>?_⟩;obtain⟨rfl,Y,c,rfl⟩:=I;rw[B] at c;cases c;exact⟨rfl,rv⟩
  |_=>exact⟨λe=>(by cases e),λx e=>(by cases e)⟩
theorem z8(c:PassesOwn (model X.prog X.w) X.A X.env X.xe)(C:Ctx T g X sc N)(B:T.calm=true){x:Str}{o:Expr}{body:List Stmt}{o':Ex}{b':List S}{ap cp:Pos}(hx:isLocal sc x=true)(z:∀y,X.fn y=true)(hi:f6 N x=some i)
  (F:attributeBase o "values" X.env (eval o X.env)=eval o X.env) (hl:(ap.endLine==cp.line)=true)(ho:PE X o (tE X.K<|run g o'))(hb:PSs X body (tS X.K Xw<|execs g b')):
  PS X (.For (.Name x p2) (.Call (.Attribute o "values" ap) [] [] cp) body [] pos) (tS X.K Xw<|exec g<|.forW i o' b'):=by
 refine((j3 c (C.calm B) (xN ho F hl) (eG (i:=i) (by rw[C.n];exact C.nd) (by rw[C.n];exact cM hi) (hV C hx)<|.inl<|z x) hb).thawD).imp λD W H c=>?_
 obtain⟨G,st,loc,S,L,P⟩:=c;obtain⟨d,st1,e1,P⟩:=aX P;obtain⟨n,U,e2,P⟩:=aX P;obtain⟨kvs,rfl,q,rfl⟩:=rq e2;refine bj S L e1 λH1 G1 v J S1 Y=>?_;cases Y with
 |ref hn=>
  obtain⟨vs,I,g2,g3⟩:=S1.freeze q;refine⟨G1 n,vs,rfl,I,λZ nf=>?_⟩;obtain⟨E2,S2⟩:=g3 Z;have ls:(st1.set n<|.dcf kvs).length=st1.length:=aA ..;exact i8 (D:=D.thaw X) (st0:=st1.set n<|.dcf kvs) (db.dv (by rw[ls];exact hn) bf) (Ext.refl _ _ _) S2 (by rw[ls];exact(L.ext J).ext E2)<|sy J hn I nf P
end
noncomputable abbrev oX(X:Cx):Prop:=X.stack=X.env::X.outer/\X.env.frame=some X.env.locals
def SS(T:Tab)(g:eX)(n:Nat):Prop:=∀{X:Cx}{sc:Scope}{N:List Str}{s:Stmt}{s':S}{Xw:Addr->L2.St->Hp->Prop},Ctx T g X sc N->(∀y,X.fn y=true)->PassesOwn (model X.prog X.w) X.A X.env X.xe->oX X->cS T n sc N s=some s'->PS X s (tS X.K Xw<|exec g s')
def Eb(T:Tab)(g:eX)(n:Nat):Prop:=∀{X:Cx}{sc:Scope}{N:List Str}{s:List Stmt}{s':List S}{Xw:Addr->L2.St->Hp->Prop},Ctx T g X sc N->(∀y,X.fn y=true)->PassesOwn (model X.prog X.w) X.A X.env X.xe->oX X->zp T n sc N s=some s'->PSs X s (tS X.K Xw<|execs g s')
theorem uj{T:Tab}(h1:SS T g n)(h2:Eb T g n):Eb T g (n+1):=by
 intro X sc N s s' Xw C B c z h;cases s with
 |nil=>cases h;refine xI.imp λD W H c=>?_;obtain⟨G,st,loc,S,L,P⟩:=c;exact P H G W (Ext.refl _ _ _) S L
 |cons a r=>
  obtain⟨r',F,rfl⟩:=map_some h
  have I:PS X a (tS X.K Xw<|exec g<|(cS T n sc N a).getD .stop):=by
   cases q:cS T n sc N a with
   |none=>exact uA
   |some a'=>exact h1 C B c z q
  refine(uW I<|h2 (Xw:=Xw) C B c z F).imp λD W H c=>?_;obtain⟨G,st,loc,S,L,P⟩:=c;obtain⟨f,st1,J,P⟩:=aX P;refine⟨G,st,loc,S,L,?_⟩;rw[J];cases f with
  |nx loc1=>exact λH1 G1 W1 Z U Y=>⟨G1,st1,loc1,U,Y,P.mono Z⟩
  |_=>exact P
theorem uf{T:Tab}{sc:Scope}{e:Expr}{e':Ex}(z:vE e=false)(c:cE T n sc N e=some e')(o:Option Expr)(l:Nat)(env:Env)(ho:o=none∨∃x p,o=some (.Name x p)):swapsWith e o l env=pure false:=by
 cases n with
 |zero=>cases c
 |succ n=>
  rcases ho with rfl|⟨x,p,rfl⟩
  .cases e<;>first|rfl|(cases c;done)|cases z
  .cases e<;>first|rfl|(cases c;done)|cases z
theorem xC{T:Tab}(h2:Eb T g n):SS T g (n+1):=by
 intro X sc N s s' Xw C I J F h;have snd:=sound T g n;have B:=λ{e:Expr}{e':Ex}(q:cE T n sc N e=some e')=>snd.1 C q;cases s with
 |Assign ts e _=>
  obtain⟨t,ht,h⟩:=bs h;cases cN ht;clear ht;cases t with
  |Name x px=>
   obtain⟨U,h⟩:=fW h;obtain⟨i,hi,h⟩:=bs h;obtain⟨e',hee,rfl⟩:=map_some h;have k1:X.N[i]? =some x:=by rw[C.n];exact cM hi
   by_cases hk:vE e=true
   .cases e with
    |ListComp elt gens scope pos=>
     cases n with
     |zero=>cases hee
     |succ m=>obtain⟨xs,t,it,ifs,rfl,Y,hc,hd⟩:=rP (sound T g m).1 C hee;exact(gU.ps C Y hc hd k1 (hV C U)<|.inl<|I _).imp λD W H q=>uR q
    |_=>cases hk
   .exact(uY (by rw[C.n];exact C.nd) k1 (hV C U) (B hee).1 (uf (by simpa using hk) hee _ _ _<|.inr ⟨_,_,rfl⟩)<|.inl<|I _).imp λD W H q=>uR q
  |Subscript o i _=>
   obtain⟨hp',h⟩:=fW h;obtain⟨o',a1,h⟩:=bs h;obtain⟨i',Z,h⟩:=bs h;obtain⟨e',a3,rfl⟩:=map_some h;exact xA (by have:=C.un;omega) hp'.1 hp'.2 (B a1).1 (B Z).1 (B a3).1
  |Attribute o f _=>obtain⟨hnc,h⟩:=fW h;obtain⟨o',a1,h⟩:=bs h;obtain⟨e',Z,rfl⟩:=map_some h;exact z6 C hnc (B a1).1 (B Z).1
  |Tuple ts _ _=>obtain⟨Y,h⟩:=fW h;obtain⟨is,ht,h⟩:=bs h;obtain⟨e',Z,h⟩:=bs h;obtain⟨hk,h⟩:=fW h;cases h;exact Cq C Y I hk ht (B Z).1
  |_=>cases h
 |Return o _=>
  cases o with
  |none=>cases h
  |some e=>
   cases h;cases q:cE T n sc N e with
   |none=>exact uA
   |some e'=>exact Cr (B q).1
 |Expr e _=>obtain⟨z,hq,h⟩:=bs h;obtain⟨o',a1,h⟩:=bs h;obtain⟨e',Z,rfl⟩:=map_some h;obtain⟨m,ap,cp,rfl,hm⟩:=wF hq;simp only[and_eq_true] at hm;exact Cy hm.1.1 hm.1.2 (ck Z [] _) (dN hm.2 _ _) (B a1).1 (B Z).1
 |AugAssign t op e _=>
  cases t with
  |Subscript o i _=>
   cases op with
   |Add=>obtain⟨U,h⟩:=fW h;obtain⟨o',q1,h⟩:=bs h;obtain⟨i',q2,h⟩:=bs h;obtain⟨e',q3,rfl⟩:=map_some h;exact Af U (B q1).1 (B q2).1 (B q3).1
   |_=>cases h
  |_=>cases h
 |Continue _=>cases h;exact Ad
 |If c a b _=>obtain⟨c',a1,h⟩:=bs h;obtain⟨a',Z,h⟩:=bs h;obtain⟨b',a3,rfl⟩:=map_some h;exact ED (B a1).2 (h2 (Xw:=Xw) C I J F Z)<|h2 (Xw:=Xw) C I J F a3
 |For t it body els _=>
  cases els with
  |cons=>cases h
  |nil=>
   cases t with
   |Name x _=>
    obtain⟨U,h⟩:=fW h;obtain⟨i,hi,h⟩:=bs h;obtain⟨b',hb,h⟩:=bs h;rcases n4 h with⟨a,ha,h⟩|⟨_,h⟩
    .obtain⟨a',q,rfl⟩:=map_some h;obtain⟨hg,_,_,rfl⟩:=nT ha;exact z9 J C U.2 U.1 I hi hg (ck q [] _) (B q).1<|h2 (Xw:=Xw) C I J F hb
    rcases n4 h with⟨z,hz,h⟩|⟨_,h⟩
    .obtain⟨a',q1,rfl⟩:=map_some h;obtain⟨hg,_,_,_,_,rfl,m1,m2⟩:=uM hz;exact Aa J C U.2 U.1 I hi hg (ck q1 _ _) m1 m2 (B q1).1<|h2 (Xw:=Xw) C I J F hb
    rcases n4 h with⟨z,hz,h⟩|⟨_,h⟩
    .obtain⟨o',q1,rfl⟩:=map_some h;obtain⟨ap,cp,rfl,h4,h5⟩:=oa hz;exact z8 J C U.2 U.1 I hi (dN h5 _ _) h4 (B q1).1<|h2 (Xw:=Xw) C I J F hb
    .obtain⟨a',q,rfl⟩:=map_some h;exact Cu J C U.2 U.1 I hi (B q).1 (m8 q _)<|h2 (Xw:=Xw) C I J F hb
   |Tuple ts _ _=>obtain⟨Y,h⟩:=fW h;obtain⟨is,ht,h⟩:=bs h;obtain⟨b',hb,h⟩:=bs h;obtain⟨z,hz,h⟩:=bs h;obtain⟨a',q1,rfl⟩:=map_some h;obtain⟨hg,_,_,rfl⟩:=j_ hz;exact z_ J C Y I ht hg (ck q1 [] _) (B q1).1<|h2 (Xw:=Xw) C I J F hb
   |_=>cases h
 |While c body els _=>
  cases els with
  |cons=>cases h
  |nil=>obtain⟨c',hc,h⟩:=bs h;obtain⟨b',hb,rfl⟩:=map_some h;exact z5 J (B hc).2<|h2 (Xw:=Xw) C I J F hb
 |_=>cases h
theorem ml(T:Tab)(g:eX):∀n,SS T g n/\Eb T g n
 |0=>⟨λC B z c h=>(by cases h),λC B z c h=>(by cases h)⟩
 |n+1=>⟨xC (ml T g n).2,uj (ml T g n).1 (ml T g n).2⟩
structure Rec where
 name:Str
 fname:Str
 qual:Str
 ps:List Str
 N:List Str
 st:Stmt
 fn:Fn
structure Chk(T:Tab)(r:Rec):Prop where
 sc:FnScope r.N r.ps (bY r.st)
 nm:∀x∈r.N,(x==("__debug__":Str))=false/\(x==("__classdict__":Str))=false
 cc:zp T 100 (bY r.st) r.N (dA r.st)=some r.fn.body
 ar:r.fn.ar=r.ps.length
 nl:r.fn.nl=r.N.length
structure Lnk(K:aF)(r:Rec)(a:Addr)(fd:FuncData):Prop where
 f:Fun K r.fname r.qual r.st a fd
 b:Binds K fd r.ps []
theorem FV{K:aF}{mg:Str->Option Value}{base:Heap}{x qual:Str}{st:Stmt}{f:Addr}{fd:FuncData}{ps:List Str}{k:Nat}{sp:Sp}(F:Fun K x qual st f fd)(S:FnScope N ps (bY st))(len:∀vs H Q E,sp vs H Q E->vs.length=ps.length)
  (z:∀(c:Value)(A:Around)(outer:List Env)(s:Shared)(H:Hp)(vs:List V)(Q:VK)(E:XK),Room k (A.deeper<|envOfC qual (bY st) s.heap.objs.size f c)->sp vs H Q E->
   ∃t,PSs (p_ (o0 P w) P w K mg base N qual (bY st) f c A outer s H E) (dA st) t/\t {nx:=λ_ H'=>Q .non H',rt:=Q} (start N vs) H):FnOk P w K mg base (o0 P w) (k+1) f fd ps sp:=by
 obtain⟨oc,Z,kV,Y,pm,an,c,ct,J,rfl,lk,I⟩:=F.ex;exact Dl lk I S len λA outer s H vs Q E U B=>z c A outer s H vs Q E U B
theorem je{bq:List Rec}{T:Tab}{r:Rec}(c:bq[i]? =some r)(z:Chk T r):∀(n:Nat)(ds:List D)(st:aU),ds.length≠r.ps.length->calls (bq.map (·.fn)) n i ds st=.bad
 |0,_,_,_=>rfl
 |n+1,ds,st,h=>by
  have e:(bq.map (·.fn))[i]? =some r.fn:=by rw[aj,c];rfl
  simp only[calls,e,rO];rw[if_neg (by rw[z.ar];exact h)]
  rfl
theorem r_{K:aF}{H:Hp}{G:Nat->Addr}{ds:List D}{vs:List V}(r:VRels K H G m ds vs)(N:List Str)(k:Nat)(z:k=N.length):LRel K H G m (ds.map some++replicate (k - ds.length) none) (L2.start N vs):=by
 have l:=r.length;refine⟨by simp[L2.start,l,z],λi d e=>?_⟩
 by_cases hi:i<ds.length
 .rw[aB (by simpa using hi),aj] at e
  cases q:ds[i]? with
  |none=>rw[q] at e;cases e
  |some d'=>
   rw[q] at e;have e':d'=d:=by simpa using e
   subst e';obtain⟨v,c,rv⟩:=r.get q;refine⟨v,?_,rv⟩;unfold L2.start;rw[aB (by simpa[<-l] using hi),aj,c]
   rfl
 .rw[az (by simpa using hi),List.getElem?_replicate] at e
  split at e<;>cases e
structure Facts(P:Program)(w:World)(K:aF)(mg:Str->Option Value)(T:Tab)(bq:List Rec):Prop where
 chk:∀r∈bq,Chk T r
 calm:T.calm=true
 fns:∀(i:Nat)(f:Str),T.fns[i]? =some f->(f==("__debug__":Str))=false/\∃r a fd,bq[i]? =some r/\Lnk K r a fd/\mg f=some (.ref a)
 isks:∀t tb,(t,tb)∈T.isks->(t==("__debug__":Str))=false/\∃C0,mg t=some (.ref C0)/\∀c b,(c,b)∈tb->∃C,PySem.W.nsIn K mainGlobals c=some (some<|.ref C)/\Cls K C/\PySem.W.findIn K (.ref C) "__class__"=some (some<|.builtin "object.__class__")/\PySem.W.specialIn K (.builtin "object.__class__") "__get__"=some (some<|.builtin "getset_descriptor.__get__")/\PySem.W.takesIn K (.builtin "object.__class__")=some true/\PySem.W.mroIn K C (.type "object")=some true/\PySem.W.kitOne K (.ref C) (.ref C0)=some b
 blt:∀x∈tm,mg x=none
 icl:∀c∈T.icl,∃C,PySem.W.nsIn K mainGlobals c.x=some (some<|.ref C)/\Cls K C/\(∀f∈c.flds,fJ K C f)/\(∀(m:Str)(j:Nat),(m,j)∈c.mts->∃r a fd,bq[j]? =some r/\Lnk K r a fd/\Meth K C m a)
 mks:∀(x:Str)(j:Nat),(x,j)∈T.mks->(x==("__debug__":Str))=false/\∃C r a fd,bq[j]? =some r/\Lnk K r a fd/\PySem.W.nsIn K mainGlobals x=some (some<|.ref C)/\mg x=some (.ref C)/\Mk K C a
theorem jK{P:Program}{w:World}{K:aF}{mg:Str->Option Value}{base:Heap}{T:Tab}{bq:List Rec}(Z:Facts P w K mg T bq):
  ∀(n i:Nat)(r:Rec)(a:Addr)(fd:FuncData),bq[i]? =some r->Lnk K r a fd->FnOk P w K mg base (o0 P w) (2*n) a fd r.ps (Cm K r.ps.length<|calls (bq.map (·.fn)) n i)
 |0,i,r,a,fd,hr,L=>⟨λvs H Q E h=>h.1,λA outer s H args us vs Q E _ _ _ _ h=>by obtain⟨_,G,st,ds,_,_,q⟩:=h;exact False.elim q⟩
 |n+1,i,r,a,fd,hr,L=>by
  have c:=Z.chk r<|ag hr;refine FV (k:=2*n+1) L.f c.sc (λvs H Q E h=>h.1)<|λcdv A outer s H vs Q E B h=>?_;obtain⟨U,G,st,ds,S,rv,q⟩:=h;have un:=B.un
  have C:Ctx T (calls (bq.map (·.fn)) n) (p_ (o0 P w) P w K mg base r.N r.qual (bY r.st) a cdv A outer s H E) (bY r.st) r.N:=by
   refine⟨rfl,rfl,c.sc.nd,c.nm,λ_=>rfl,?_,λj f Y=>?_,Z.isks,Z.blt,λc hc=>?_,λx j Y=>?_⟩
   .show(A.deeper _).units+100<cLine;omega
   .obtain⟨hd,I,J,fd2,z,F,hm⟩:=Z.fns j f Y;exact⟨hd,J,fd2,I.ps,2*n,hm,F.f.kp,F.b,B.mono<|le_succ _,je z (Z.chk I<|ag z) n,jK Z n j I J fd2 z F⟩
   .obtain⟨C0,q1,q2,q3,q4⟩:=Z.icl c hc;refine⟨C0,q1,q2,q3,λm j Y=>?_⟩;obtain⟨I,J,fd2,z,F,M⟩:=q4 m j Y;exact⟨J,fd2,I.ps,2*n,M,F.b,B.mono<|le_succ _,je z (Z.chk I<|ag z) n,jK Z n j I J fd2 z F⟩
   .obtain⟨hd,C0,I,J,fd2,z,F,q1,q2,q3⟩:=Z.mks x j Y;exact⟨hd,C0,J,fd2,I.ps,2*n,q1,q2,q3,F.b,B,je z (Z.chk I<|ag z) n,jK Z n j I J fd2 z F⟩
  refine⟨_,(ml _ _ 100).2 (Xw:=λa _ H'=>E (.ref a) none H') C (λ_=>rfl) PassesOwn.leaving ⟨rfl,rfl⟩ c.cc,G,st,ds.map some++replicate (r.fn.nl - ds.length) none,S,r_ rv _ _ c.nl,?_⟩;have e:(bq.map (·.fn))[i]? =some r.fn:=by rw[aj,hr];rfl
  have hd:ds.length=r.fn.ar:=by rw[rv.length,U,c.ar]
  simp only[calls,e,rO] at q;rw[if_pos hd] at q;unfold bg at q;cases e1:execs (calls (bq.map (·.fn)) n) r.fn.body (ds.map some++replicate (r.fn.nl - ds.length) none) st with
  |bad=>rw[e1] at q;exact q.elim
  |ok f st1=>
   rw[e1] at q;cases f with
   |nx loc=>exact λH1 G1 W1 E1 S1 L1=>q H1 G1 .non E1 S1 .non
   |rt d=>exact q
   |ex m l=>exact λH1 G1 W1 E1 S1 L1=>q H1 G1 E1 S1
   |ct l=>exact q.elim
def qz(K:aF):Sp:=λvs H Q _=>∃(a:Addr)(ns:List Int),vs=[.ref a]/\dO K H a (ns.map V.int)/\yV H/\ns.length<=63/\∀H',Q (.bl true) H'
theorem oq{K:aF}{H:Hp}{G:Nat->Addr}{m:Nat}:∀ns:List Int,VRels K H G m (ns.map .int) (ns.map V.int)
 |[]=>.nil
 |n::ns=>.cons (.int n)<|oq ns
theorem AU{K:aF}{mg:Str->Option Value}{base:Heap}{a:Addr}{fd:FuncData}{x:Str}{f:List D->M Rs}(F:FnOk P w K mg base (o0 P w) n a fd [x] (Cm K 1 f))
  (h:∀ns:List Int,ns.length<=63->∃st',f [.fl<|ns.map .int] []=.ok (.v<|.bl true) st'):FnOk P w K mg base (o0 P w) n a fd [x] (qz K):=by
 refine F.imp λvs H Q E c=>?_;obtain⟨a,ns,e,I,J,B,q⟩:=c;subst e;obtain⟨st',e⟩:=h ns B;refine⟨rfl,λ_=>0,[],[.fl<|ns.map .int],⟨λi _ hi=>absurd hi<|not_lt_zero _,λi o e=>by simp at e⟩,.cons (.fl (xs:=ns.map V.int) ?_<|oq ns) .nil,?_⟩
 .rcases I with(h|h)|h
  .rcases J a with z|⟨o,xs,z⟩
   .rw[h] at z;cases z
   .rw[h] at z;cases z
  .exact .inl h
  .exact .inr h
 .rw[e];intro H' G' v Y U r;cases r;exact q H'
theorem walk{l:PySem.W.OpenLaw}{q:Program}{loose:List Str}{XP:(Str->Option Value)->Heap->Prop}{YP:World->Heap->Prop}{d:DefRec}{K:Params->aF}{x:Str}(H:l.most=some 63)(c:d.params.defaults=[])(B:Room n callerA)
  (hY:∀(w:World)(h:Heap),YP w h->(K w.params).In h)
  (F:∀(w:World)(mg:Str->Option Value)(fa:Addr)(h:Heap),(K w.params).In h->h.Ns mainGlobals mg->mg d.name=some (.ref fa)->
   ∃fd:FuncData,(∀(s:Shared)(u:Value),BindsTo s fd ⟨[u],[]⟩ [(x,u)])/\∀base:Heap,(K w.params).In base->base.Ns mainGlobals mg->FnOk l.prog w (K w.params) mg base (o0 l.prog w) n fa fd [x] (qz<|K w.params)):
  PySem.W.WalkO q loose XP YP l.row.toRowW d [] (λf vs=>PySem.call f vs):=
 L2.wV (n:=63) (k:=n) (x:=x) (CX:=λw=>o0 l.prog w) (sp:=λw=>qz<|K w.params) H (by decide) c B hY F (λ_ _ a ns I U J=>⟨a,ns,rfl,J,U,I,λ_=>rfl⟩) λ_ _ _ _ _ z=>z.elim
set_option maxHeartbeats 4000000
noncomputable def sQ(o:Option (Option Value))(s:String):Bool:=match o with
 |some (some<|.builtin t)=>t==s
 |_=>false
theorem jF{o:Option (Option Value)}{s:String}(h:sQ o s=true):o=some (some<|.builtin s):=by
 unfold sQ at h;split at h
 .rename_i t;have:t=s:=by simpa using h
  rw[this]
 .cases h
noncomputable def ym(o:Option (Option Value)):Bool:=match o with
 |some none=>true
 |_=>false
theorem rc{o:Option (Option Value)}(h:ym o=true):o=some none:=by
 unfold ym at h;split at h
 .rfl
 .cases h
noncomputable def Db(o:Option Bool)(b:Bool):Bool:=match o with
 |some c=>c==b
 |_=>false
theorem pP{o:Option Bool}{b:Bool}(h:Db o b=true):o=some b:=by
 unfold Db at h;split at h
 .rename_i c;have:c=b:=by simpa using h
  rw[this]
 .cases h
noncomputable def js(K:aF)(x:Str)(f:Addr->Bool):Bool:=match PySem.W.nsIn K mainGlobals x with
 |some (some<|.ref C)=>f C
 |_=>false
theorem fh{K:aF}{x:Str}{f:Addr->Bool}(h:js K x f=true):∃C,PySem.W.nsIn K mainGlobals x=some (some<|.ref C)/\f C=true:=by
 unfold js at h;split at h
 .exact⟨_,by assumption,h⟩
 .cases h
def vD(K:aF)(o:Option (Option Value)):Bool:=match o with
 |some (some v)=>PySem.W.isFn K v
 |_=>false
section
variable{K:aF}{mg:Str->Option Value}{T:Tab}{bq:List Rec}{h:Heap}
def yp(K:aF)(T:Tab):Bool:=
 (T.icl.all λc=>js K c.x λC=>PySem.W.plainGet K C Str.empty&&(PySem.W.hasDictIn K C&&(PySem.W.plainOver K C&&(sQ (PySem.W.findIn K (.ref C) "__setattr__") "object.__setattr__" &&(c.flds.all (λf=>ym<|PySem.W.findIn K (.ref C) f)&&
  c.mts.all (λp=>vD K<|PySem.W.findIn K (.ref C) p.1))))))&&
 ((T.mks.all λp=>js K p.1 λC=>PySem.W.makesIn K C&&(PySem.W.keepIn K (.ref C)&&vD K (PySem.W.findIn K (.ref C) "__init__")))&&
 (T.isks.all λt=>(t.1==("__debug__":Str))==false&&js K t.1 λC0=>t.2.all λp=>js K p.1 λC=>PySem.W.plainGet K C Str.empty&&(PySem.W.hasDictIn K C&&(PySem.W.plainOver K C&&(sQ (PySem.W.findIn K (.ref C) "__setattr__") "object.__setattr__" &&(sQ (PySem.W.findIn K (.ref C) "__class__") "object.__class__" &&
  (sQ (PySem.W.specialIn K (.builtin "object.__class__") "__get__") "getset_descriptor.__get__" &&(Db (PySem.W.takesIn K<|.builtin "object.__class__") true&&(Db (PySem.W.mroIn K C<|.type "object") true&&Db (PySem.W.kitOne K (.ref C)<|.ref C0) p.2)))))))))
def DR(K:aF)(bq:List Rec)(x m:Str)(j:Nat):Prop:=∃C r a fd,bq[j]? =some r/\Lnk K r a fd/\PySem.W.nsIn K mainGlobals x=some (some<|.ref C)/\PySem.W.findIn K (.ref C) m=some (some<|.ref a)
def Fq(K:aF)(mg:Str->Option Value)(bq:List Rec)(x:Str)(j:Nat):Prop:=(x==("__debug__":Str))=false/\∃C r a fd,bq[j]? =some r/\Lnk K r a fd/\PySem.W.nsIn K mainGlobals x=some (some<|.ref C)/\mg x=some (.ref C)/\PySem.W.findIn K (.ref C) "__init__"=some (some<|.ref a)
theorem oo{v:Value}{o:Option (Option Value)}(h:vD K o=true)(e:o=some (some v)):PySem.W.isFn K v=true:=by rw[e] at h;exact h
theorem v0(X:K.In h)(G:h.Ns mainGlobals mg)(hc:∀r∈bq,Chk T r)(hq:T.calm=true)(F:T.fns.length<=bq.length)
  (z:∀p∈List.zip T.fns bq,(p.1==("__debug__":Str))=false/\∃a fd,Lnk K p.2 a fd/\mg p.1=some (.ref a))
  (hb:∀x∈tm,mg x=none)
  (hI:yp K T=true)(hm:∀c∈T.icl,∀p∈c.mts,DR K bq c.x p.1 p.2)(hk:∀p∈T.mks,Fq K mg bq p.1 p.2)(hg:∀t C,PySem.W.nsIn K mainGlobals t=some (some<|.ref C)->mg t=some (.ref C)):Facts P w K mg T bq:=by
 unfold yp at hI;simp only[and_eq_true] at hI;obtain⟨i2,i3,i4⟩:=hI;refine⟨hc,hq,?_,?_,hb,?_,?_⟩
 .intro i f e;have hl:i<bq.length:=ao (aq e).1 F;have er:bq[i]? =some bq[i]:=af hl;have:(f,bq[i])∈List.zip T.fns bq:=ag (i:=i) (by rw[List.getElem?_zip_eq_some];exact⟨e,er⟩)
  obtain⟨d,a,fd,L,m⟩:=z _ this;exact⟨d,_,a,fd,er,L,m⟩
 .intro t tb ht;have q:=all_eq_true.mp i4 (t,tb) ht;simp only[and_eq_true] at q;obtain⟨q0,q⟩:=q;obtain⟨C0,e0,q⟩:=fh q;refine⟨by simpa using q0,C0,hg t C0 e0,λc b hcb=>?_⟩
  obtain⟨C,e,q⟩:=fh<|all_eq_true.mp q (c,b) hcb;simp only[and_eq_true] at q;obtain⟨q1,q2,Y,U,J,I,q7,q8,q9⟩:=q;exact⟨C,e,⟨q1,q2,Y,jF U⟩,jF J,jF I,pP q7,pP q8,pP q9⟩
 .intro c H;obtain⟨C,e,q⟩:=fh<|all_eq_true.mp i2 c H;simp only[and_eq_true] at q;obtain⟨q1,q2,Y,U,J,I⟩:=q;refine⟨C,e,⟨q1,q2,Y,jF U⟩,λf z=>rc<|all_eq_true.mp J f z,λm j B=>?_⟩
  .obtain⟨C',r,a,fd,Z,L,e',z⟩:=hm c H (m,j) B;rw[e] at e';cases e';exact⟨r,a,fd,Z,L,⟨z,oo (all_eq_true.mp I (m,j) B) z,L.f.kp⟩⟩
 .intro x j hx;obtain⟨hd,C,r,a,fd,Z,L,e,m,z⟩:=hk (x,j) hx;obtain⟨C',e',q⟩:=fh<|all_eq_true.mp i3 (x,j) hx;rw[e] at e';cases e';simp only[and_eq_true] at q;exact⟨hd,C,r,a,fd,Z,L,e,m,⟨q.1,z,oo q.2.2 z,q.2.1⟩⟩
end
def BO(r:Rec):Option Obj->Option Obj
 |some ⟨oc,od,.func f,sl⟩=>some ⟨oc,od,.func<|PySem.W.fnOf r.fname r.qual (eK r.st) (dA r.st) (bY r.st) .none f.kwdefaults f.doc f.pyModule f.annotations f.code f.closureTuple,sl⟩
 |_=>none
noncomputable def E_(K:aF)(r:Rec)(a:Addr):Bool:=match K.lookup a with
 |some ⟨_,_,.func f,_⟩=>PySem.W.codeIn K f.code r.qual&&PySem.W.keepIn K (.ref a)
 |_=>false
def BV(r:Rec):Prop:=∀(kV doc pm:Value)(an:Option Addr)(cdv ct:Value)(us:List Value),us.length=r.ps.length->bindArgs (PySem.W.fnOf r.fname r.qual (eK r.st) (dA r.st) (bY r.st) .none kV doc pm an cdv ct) ⟨us,[]⟩=pure (r.ps.zip us)
theorem AT{K:aF}{r:Rec}{a:Addr}(c:BV r)(h:E_ K r a=true)(e:K.lookup a=BO r (K.lookup a)):∃fd,Lnk K r a fd:=by
 unfold E_ at h;cases q:K.lookup a with
 |none=>rw[q] at h;cases h
 |some o=>
  obtain⟨B,z,dt,sl⟩:=o;cases dt with
  |func f=>rw[q] at h e;rw[and_eq_true] at h;have F:=Bd (x:=r.fname) (qual:=r.qual) (st:=r.st) (q.trans e) h.1 h.2;exact⟨_,F,F.binds c⟩
  |_=>rw[q] at h;cases h
noncomputable def Da(o:Option (Option Value))(a:Option Addr):Bool:=match o,a with
 |some (some<|.ref x),some y=>x==y
 |_,_=>false
theorem pO{o:Option (Option Value)}{a:Option Addr}(h:Da o a=true):∃x,a=some x/\o=some (some<|.ref x):=by
 unfold Da at h;split at h
 .rename_i x y;have:x=y:=by simpa using h
  subst this;exact⟨_,rfl,rfl⟩
 .cases h
noncomputable def DY(x:Str):Bool:=(x==("__debug__":Str))==false
def lG(K:aF)(T:Tab)(bq:List Rec)(ad:List Addr):Bool:=
 bq.length==ad.length&&((bq.zip ad).all (λp=>E_ K p.1 p.2)&&((T.fns.zip<|bq.zip ad).all (λp=>DY p.1&&Da (PySem.W.nsIn K mainGlobals p.1) (some p.2.2))&&
 (tm.all (λx=>ym<|PySem.W.nsIn K mainGlobals x)&&(T.icl.all (λc=>js K c.x λC=>c.mts.all λp=>Da (PySem.W.findIn K (.ref C) p.1) ad[p.2]?)&&T.mks.all (λp=>DY p.1&&js K p.1 λC=>Da (PySem.W.findIn K (.ref C) "__init__") ad[p.2]?)))))
section
variable{K:aF}{mg:Str->Option Value}{T:Tab}{bq:List Rec}{h:Heap}{ad:List Addr}
theorem zd(J:∀r∈bq,BV r)(z:lG K T bq ad=true)(e:(bq.zip ad).map (λp=>K.lookup p.2)=(bq.zip ad).map λp=>BO p.1<|K.lookup p.2){j:Nat}{a:Addr}(F:ad[j]? =some a):∃r fd,bq[j]? =some r/\Lnk K r a fd:=by
 unfold lG at z;simp only[and_eq_true] at z;obtain⟨h0,h1,_⟩:=z;have h0:bq.length=ad.length:=by simpa using h0
 have I:j<bq.length:=by rw[h0];exact(aq F).1
 have c:bq[j]? =some bq[j]:=af I;have B:(bq.zip ad)[j]? =some (bq[j],a):=by rw[List.getElem?_zip_eq_some];exact⟨c,F⟩
 have H:=ag B
 have U:K.lookup a=BO bq[j] (K.lookup a):=by have q:=congrArg (·[j]?) e;simpa[List.getElem?_map,B] using q
 obtain⟨fd,L⟩:=AT (J _<|ag c) (all_eq_true.mp h1 _ H) U;exact⟨_,fd,c,L⟩
theorem wo{x:Str}(h:DY x=true):(x==("__debug__":Str))=false:=by unfold DY at h;simpa using h
theorem sX(X:K.In h)(G:h.Ns mainGlobals mg)(Y:∀r∈bq,Chk T r)(hq:T.calm=true)(Z:∀r∈bq,BV r)(I:lG K T bq ad=true)(e:(bq.zip ad).map (λp=>K.lookup p.2)=(bq.zip ad).map λp=>BO p.1<|K.lookup p.2)
  (H:T.fns.length<=bq.length)(hI:yp K T=true):Facts P w K mg T bq:=by
 have LK:=λ{j:Nat}{a:Addr}(J:ad[j]? =some a)=>zd Z I e J;unfold lG at I;simp only[and_eq_true] at I;obtain⟨h0,h1,h2,h4,h6,h7⟩:=I;refine v0 X G Y hq H (λp F=>?_) (λx hx=>PySem.W.mg_none_of X G<|rc<|all_eq_true.mp h4 x hx) hI (λc Y p F=>?_) (λp F=>?_)<|λt C B=>PySem.W.mg_of X G B
 .obtain⟨i,hi⟩:=List.getElem?_of_mem F;rw[List.getElem?_zip_eq_some] at hi;have h0:bq.length=ad.length:=by simpa using h0
  have hj:i<ad.length:=by rw[<-h0];exact(aq hi.2).1
  have J:ad[i]? =some ad[i]:=af hj;obtain⟨r,fd,z,L⟩:=LK J;rw[hi.2] at z;cases z;have hz:(T.fns.zip<|bq.zip ad)[i]? =some (p.1,p.2,ad[i]):=by rw[List.getElem?_zip_eq_some];exact⟨hi.1,by rw[List.getElem?_zip_eq_some];exact⟨hi.2,J⟩⟩
  have q:=all_eq_true.mp h2 _<|ag hz;simp only[and_eq_true] at q;obtain⟨x,ex,eo⟩:=pO q.2;cases ex;exact⟨wo q.1,_,fd,L,PySem.W.mg_of X G eo⟩
 .obtain⟨C,B,U⟩:=fh<|all_eq_true.mp h6 c Y;obtain⟨a,ea,ef⟩:=pO<|all_eq_true.mp U p F;obtain⟨r,fd,z,L⟩:=LK ea;exact⟨C,r,a,fd,z,L,B,ef⟩
 .have q:=all_eq_true.mp h7 p F;simp only[and_eq_true] at q;obtain⟨C,B,U⟩:=fh q.2;obtain⟨a,ea,ef⟩:=pO U;obtain⟨r,fd,z,L⟩:=LK ea;exact⟨wo q.1,C,r,a,fd,z,L,B,PySem.W.mg_of X G B,ef⟩
theorem yi{l:PySem.W.OpenLaw}{Y:Addr}{li:Nat}{x:Str}{a:Addr}{r:Rec}(X:K.In h)(G:h.Ns mainGlobals mg)(U:mg "law"=some (.ref Y))(z:∀r∈bq,BV r)(hl:lG K T bq ad=true)(e:(bq.zip ad).map (λp=>K.lookup p.2)=(bq.zip ad).map λp=>BO p.1<|K.lookup p.2)
  (Z:Facts l.prog w K mg T bq)(ha:ad[li]? =some a)(I:bq[li]? =some r)(hn:PySem.W.nsIn K mainGlobals "law"=some (some<|.ref a)) (J:r.ps=[x])(hs:∀ns:List Int,ns.length<=63->∃st',calls (bq.map (·.fn)) n li [.fl<|ns.map .int] []=.ok (.v<|.bl true) st'):
  ∃fd:FuncData,(∀(s:Shared)(v:Value),BindsTo s fd ⟨[v],[]⟩ [(x,v)])/\∀base:Heap,K.In base->base.Ns mainGlobals mg->FnOk l.prog w K mg base (o0 l.prog w) (2*n) Y fd [x] (qz K):=by
 have q:=U.symm.trans<|PySem.W.mg_of X G hn;cases q;obtain⟨r',fd,c,L⟩:=zd z hl e ha;rw[I] at c;cases c;obtain⟨oc,od,kV,B,pm,an,H,ct,osl,rfl,lk,hcd⟩:=L.f.ex;have hb:=z _<|ag I;refine⟨PySem.W.fnOf r.fname r.qual (eK r.st) (dA r.st) (bY r.st) .none kV B pm an H ct,λs v=>.of_eq ?_,λbase _ _=>?_⟩
 .have:=hb kV B pm an H ct [v] (by rw[J];rfl)
  rw[J] at this;exact this
 .have F:=jK (P:=l.prog) (w:=w) (base:=base) Z n li r _ _ I L;rw[J] at F;exact AU F hs
end
set_option genInjectivity true
open PySem L2
def W{α:Type}(r:R α)(Q:α->aU->Prop):Prop:=match r with
 | .ok a st=>Q a st
 | .bad=>False
theorem W.mono{r:R α}{Q c:α->aU->Prop}(h:W r Q)(k:∀a st,Q a st->c a st):W r c:=by
 cases r with
 |ok a st=>exact k _ _ h
 |bad=>exact h
theorem W.get{r:R α}{Q:α->aU->Prop}(h:W r Q):∃a st,r=.ok a st/\Q a st:=by
 cases r with
 |ok a st=>exact⟨a,st,rfl,h⟩
 |bad=>exact h.elim
def Vq(Q:D->aU->Prop):Rs->aU->Prop:=λr st=>match r with
 | .v d=>Q d st
 | .x _=>False
abbrev Wv(r:R Rs)(Q:D->aU->Prop):Prop:=W r<|Vq Q
theorem aP{β:Type}{m:M α}{f:α->M β}{Q:β->aU->Prop}(h:W (m st) λa st1=>W (f a st1) Q):W (bg m f st) Q:=by
 unfold bg;cases e:m st with
 |_=>rw[e] at h;exact h
section
variable{g:eX}{loc:Loc}{st:aU}{Q:D->aU->Prop}{a b c:Ex}
theorem aV(h:Q d st):W (run g (.c d) loc st) Q:=by exact h
theorem aH(e:loc[i]? =some (some d))(h:Q d st):W (run g (.v i) loc st) Q:=by rw[run];unfold fe;rw[e];exact h
theorem bo(h:W (runs g es loc st) λds st1=>Q (.tup ds) st1):W (run g (.tup es) loc st) Q:=by exact aP<|h.mono λ_ _ q=>q
theorem bw(h:W (runs g es loc st) λds st1=>Q (.ref st1.length)<|st1++[.lst ds]):W (run g (.lst es) loc st) Q:=by exact aP<|h.mono λ_ _ q=>q
theorem ql(h:Q (.ref st.length) (st++[.dct []])):W (run g .emp loc st) Q:=by exact h
theorem bN{z:Sk}{two ht:Bool}(h:W (run g a loc st) λd st1=>∃s,srcOf z d=some s/\W (cY (eF (run g c) (run g b) ht two loc) s st1) Q):W (run g (.comp z two a c ht b) loc st) Q:=by
 exact aP<|h.mono λ_ _ ⟨s,e,q⟩=>aP (by unfold fe;rw[e];exact q)
theorem aY{op:Bo}(h:W (run g a loc st) λx st1=>W (run g b loc st1) λy c=>W (cB op x y c) Q):W (run g (.bin op a b) loc st) Q:=by exact aP<|h.mono λ_ _ q=>aP q
theorem w_not(h:W (run g a loc st) λx st1=>∃k,x=.bl k/\Q (.bl<|!k) st1):W (run g (.not a) loc st) Q:=by
 exact aP (h.mono λ_ _ ⟨i,e,q⟩=>by subst e;exact q)
theorem w_and(h:W (run g a loc st) λx st1=>∃k,x=.bl k/\(k=true->W (run g b loc st1) Q)/\(k=false->Q (.bl false) st1)):W (run g (.and a b) loc st) Q:=by
 exact aP (h.mono λ_ _ c=>by
  obtain⟨k,e,q1,q2⟩:=c;subst e;cases k with
  |true=>exact q1 rfl
  |false=>exact q2 rfl)
theorem w_or(h:W (run g a loc st) λx st1=>∃k,x=.bl k/\(k=true->Q (.bl true) st1)/\(k=false->W (run g b loc st1) Q)):W (run g (.or a b) loc st) Q:=by
 exact aP (h.mono λ_ _ c=>by
  obtain⟨k,e,q1,q2⟩:=c;subst e;cases k with
  |true=>exact q1 rfl
  |false=>exact q2 rfl)
theorem bi{op:CmpOp}(h:W (run g a loc st) λx st1=>W (run g b loc st1) λy c=>W (cZ op x y c) Q):W (run g (.cmp op a b) loc st) Q:=by exact aP<|h.mono λ_ _ q=>aP q
theorem tV(h:W (run g c loc st) λx st1=>∃k,x=.bl k/\(k=true->W (run g a loc st1) Q)/\(k=false->W (run g b loc st1) Q)):W (run g (.ite c a b) loc st) Q:=by
 exact aP (h.mono λ_ _ z=>by
  obtain⟨k,e,q1,q2⟩:=z;subst e;cases k with
  |true=>exact q1 rfl
  |false=>exact q2 rfl)
theorem iS{ks:List Key}(h:W (runs g es loc st) λds st1=>(ks.length=ds.length/\ks.Nodup)/\Q (.ref st1.length) (st1++[.dct<|ks.zip ds])):W (run g (.dict ks es) loc st) Q:=by
 exact aP (h.mono λds st1 ⟨e,q⟩=>by unfold allocK;rw[if_pos e];exact q)
theorem be(h:W (run g a loc st) λx st1=>W (run g b loc st1) λy c=>W (index x y c) Q):W (run g (.ix a b) loc st) Q:=by exact aP<|h.mono λ_ _ q=>aP q
theorem o5(h:W (run g a loc st) λx st1=>W (run g b loc st1) λy c=>∃i,y=.int i/\W (slice x none (some i) c) Q):W (run g (.sl a b b false true) loc st) Q:=by
 refine aP<|h.mono λ_ _ q=>aP ?_;show W ((bg (if true=true then bg (run g b loc) λz=>bg (fe<|k5 z) λi=>ret (some i) else ret none) λh=>slice _ none h) _) Q
 exact aP (show W ((bg (run g b loc) λz=>bg (fe<|k5 z) λi=>ret<|some i) _) _ from aP (q.mono λ_ _ ⟨i,e,q⟩=>by subst e;exact q))
theorem jN(h:W (run g a loc st) λx st1=>W (run g b loc st1) λy c=>∃i,y=.int i/\W (slice x (some i) none c) Q):W (run g (.sl a b b true false) loc st) Q:=by
 refine aP<|h.mono λ_ _ q=>aP ?_;exact aP (q.mono λ_ _ ⟨i,e,q⟩=>by subst e;exact q)
theorem bC(h:W (runs g args loc st) λds st1=>Wv (g f ds st1) Q):W (run g (.fn f args) loc st) Q:=by
 refine aP<|h.mono λds st1 q=>aP<|W.mono q λr c q=>?_;cases r with
 |v d=>exact q
 |x n=>exact q.elim
theorem bh{f:Str}{ics:List Str}(h:W (run g a loc st) λx st1=>∃n c fs d,x=.ref n/\st1[n]? =some (.ins c fs)/\fs.lookup f=some d/\c∈ics/\Q d st1):W (run g (.fld a f cs ics) loc st) Q:=by
 exact aP (h.mono λx st1 ⟨n,c,fs,d,e,e1,e3,hc,q⟩=>by subst e;simp only[Bf,e1,e3];rw[if_pos hc];exact q)
theorem dI{x:Str}(h:W (runs g args loc st) λds st1=>Wv (g f (.ref st1.length::ds)<|st1++[.ins x []]) λd c=>d=.non/\Q (.ref st1.length) c):W (run g (.new x f args) loc st) Q:=by
 refine aP<|h.mono λds st1 q=>?_;unfold vw;refine aP<|W.mono q λr c q=>?_;cases r with
 |v d=>obtain⟨rfl,q⟩:=q;exact q
 |x n=>exact q.elim
theorem iQ{m:Str}{ms:List (Str×Nat)}(h:W (run g a loc st) λx st1=>∃n c fs j,x=.ref n/\st1[n]? =some (.ins c fs)/\fs.lookup m=none/\ms.lookup c=some j/\W (runs g args loc st1) λds z=>Wv (g j (.ref n::ds) z) Q):W (run g (.meth a m ms args) loc st) Q:=by
 refine aP<|h.mono λx st1 ⟨n,c,fs,j,e,e1,e2,e3,q⟩=>aP ?_;subst e;simp only[qT,e1,e2,e3];refine aP<|q.mono λds z q=>aP<|W.mono q λr B q=>?_;cases r with
 |v d=>exact q
 |x n=>exact q.elim
theorem bL{f:Bt}(h:W (runs g args loc st) λds st1=>W (dD f ds st1) Q):W (run g (.bt f args) loc st) Q:=by exact aP h
end
section
variable{g:eX}{loc:Loc}{st:aU}{Q:List D->aU->Prop}
theorem am(h:Q [] st):W (runs g [] loc st) Q:=by exact h
theorem ac(h:W (run g e loc st) λd st1=>W (runs g es loc st1) λds c=>Q (d::ds) c):W (runs g (e::es) loc st) Q:=by exact aP<|h.mono λ_ _ q=>aP<|q.mono λ_ _ q=>q
end
section
end
def Kn(g:eX)(ss:List S)(Q:Fl->aU->Prop):Fl->aU->Prop:=λr st=>match r with
 | .nx loc=>W (execs g ss loc st) Q
 | .rt d=>Q (.rt d) st
 | .ex n l=>Q (.ex n l) st
 | .ct l=>Q (.ct l) st
def Kr(Q:D->aU->Prop):Fl->aU->Prop:=λr st=>match r with
 | .nx _=>Q .non st
 | .rt d=>Q d st
 | .ex _ _=>False
 | .ct _=>False
section
variable{g:eX}{loc:Loc}{st:aU}{Q:Fl->aU->Prop}{ss:List S}{e o i c:Ex}
theorem a6(h:W (execs g ss loc st) Q):Kn g ss Q (.nx loc) st:=h
theorem ff(h:Q (.rt d) st):Kn g ss Q (.rt d) st:=h
theorem C8(h:Q (.ct loc) st):Kn g ss Q (.ct loc) st:=h
theorem iD{Q:D->aU->Prop}(h:Q .non st):Kr Q (.nx loc) st:=h
theorem bc{Q:D->aU->Prop}(h:Q d st):Kr Q (.rt d) st:=h
theorem aO(h:Q (.nx loc) st):W (execs g [] loc st) Q:=by exact h
theorem cw{s:S}(h:W (exec g s loc st) (Kn g ss Q)):W (execs g (s::ss) loc st) Q:=by
 refine aP<|h.mono λr st1 q=>?_;cases r with
 |_=>exact q
theorem zA{f:Str}{ics:List Str}(h:W (run g e loc st) λd st1=>W (run g o loc st1) λx z=>W (nS cs ics x f d z) λ_ c=>W (execs g ss loc c) Q):W (execs g (.setf o f e cs ics::ss) loc st) Q:=
 cw (by exact aP<|h.mono λ_ _ q=>aP<|q.mono λ_ _ q=>aP<|q.mono λ_ _ q=>q)
theorem aW(h:W (run g e loc st) λd st1=>W (execs g ss (loc.set n<|some d) st1) Q):W (execs g (.set n e::ss) loc st) Q:=
 cw (by exact aP<|h.mono λ_ _ q=>q)
theorem eE(h:W (run g e loc st) λd st1=>W (run g o loc st1) λx B=>W (run g i loc B) λk z=>W (ip x k d z) λ_ c=>W (execs g ss loc c) Q):W (execs g (.setix o i e::ss) loc st) Q:=
 cw (by exact aP<|h.mono λ_ _ q=>aP<|q.mono λ_ _ q=>aP<|q.mono λ_ _ q=>aP<|q.mono λ_ _ q=>q)
theorem ba(h:W (run g e loc st) λd st1=>Q (.rt d) st1):W (execs g (.ret e::ss) loc st) Q:=
 cw (by exact aP<|h.mono λ_ _ q=>q)
theorem dJ(h:W (run g o loc st) λx st1=>W (oi x st1) λ_ B=>W (run g e loc B) λd z=>W (append x d z) λ_ c=>W (execs g ss loc c) Q):W (execs g (.app o e::ss) loc st) Q:=
 cw (by exact aP<|h.mono λ_ _ q=>aP<|q.mono λ_ _ q=>aP<|q.mono λ_ _ q=>aP<|q.mono λ_ _ q=>q)
theorem jL{c:Loc->M D}{f:Loc->M Fl}(I:Nat->Loc->aU->Prop)(turn:∀m loc st,I m loc st->W (c loc st) λx st1=>∃b,x=.bl b/\(b=true->∃m',m=m'+1/\W (f loc st1) λr z=>match r with| .nx loc'=>I m' loc' z| .ct loc'=>I m' loc' z| .rt d=>Q (.rt d) z| .ex n l=>Q (.ex n l) z)/\(b=false->Q (.nx loc) st1)):
  ∀k m loc st,m<k->I m loc st->W (fR c f k loc st) Q
 |0,m,loc,st,h1,h=>by omega
 |k+1,m,loc,st,h1,h=>by
  rw[fR];refine aP<|(turn m loc st h).mono λx st1 B=>?_;obtain⟨b,e,q1,q2⟩:=B;subst e;cases b with
  |false=>exact q2 rfl
  |true=>
   obtain⟨m',rfl,q⟩:=q1 rfl;refine aP (show W ((if true=true then bg (f loc) _ else _) st1) _ from aP<|q.mono λr z q=>?_)
   cases r with
   |nx loc'=>exact jL I turn k m' loc' z (by omega) q
   |ct loc'=>exact jL I turn k m' loc' z (by omega) q
   |_=>exact q
theorem cr{x y:List S}(h:W (run g c loc st) λz st1=>∃k,z=.bl k/\(k=true->W (execs g x loc st1) (Kn g ss Q))/\(k=false->W (execs g y loc st1) (Kn g ss Q))):W (execs g (.ite c x y::ss) loc st) Q:=
 cw (by
  exact aP (h.mono λ_ _ B=>by
   obtain⟨k,e,q1,q2⟩:=B;subst e;cases k with
   |true=>exact q1 rfl
   |false=>exact q2 rfl))
def Kf(I:Loc->aU->Prop)(Q:Fl->aU->Prop):Fl->aU->Prop:=λr st=>match r with
 | .nx loc=>I loc st
 | .ct loc=>I loc st
 | .rt d=>Q (.rt d) st
 | .ex n l=>Q (.ex n l) st
theorem bW{I:Loc->aU->Prop}(h:I loc st):Kf I Q (.nx loc) st:=h
theorem C9{I:Loc->aU->Prop}(h:I loc st):Kf I Q (.ct loc) st:=h
end
section
end
theorem jM{Q:Fl->aU->Prop}{ss body:List S}(I:Nat->Loc->aU->Prop)(m:Nat)(B:m<1000000000)(h0:I m loc st)(turn:∀m loc st,I m loc st->W (run g c loc st) λx st1=>∃b,x=.bl b/\(b=true->∃m',m=m'+1/\W (execs g body loc st1) (Kf (I m')<|Kn g ss Q))/\(b=false->W (execs g ss loc st1) Q)):
  W (execs g (.whil c body::ss) loc st) Q:=by
 refine cw ?_;refine jL I (λm loc st h=>(turn m loc st h).mono λx st1 ⟨b,e,q1,q2⟩=>⟨b,e,λF=>?_,q2⟩) Be m loc st B h0;obtain⟨m',e,q⟩:=q1 F;refine⟨m',e,q.mono λr z q=>?_⟩;cases r with
 |_=>exact q
theorem zP{tab:List Fn}{k:Nat}{fn:Fn}{ds:List D}{Q:D->aU->Prop}(z:tab[f]? =some fn)(c:ds.length=fn.ar)(h:W (execs (calls tab k) fn.body (ds.map some++replicate (fn.nl - ds.length) none) st) (Kr Q)):Wv (calls tab (k+1) f ds st) Q:=by
 simp only[Wv,calls,z,rO,if_pos c];refine aP<|h.mono λr st1 q=>?_;cases r with
 |ex n l=>exact q.elim
 |ct l=>exact q.elim
 |_=>exact q
section
variable{st:aU}{Q:D->aU->Prop}{i j:Int}
theorem w_add(h:Q (.int<|i+j) st):W (cB .add (.int i) (.int j) st) Q:=h
theorem w_sub(h:Q (.int<|i - j) st):W (cB .sub (.int i) (.int j) st) Q:=h
theorem w_mul(c:(-18446744073709551616<i/\i<18446744073709551616)∨(-18446744073709551616<j/\j<18446744073709551616))(h:Q (.int<|i*j) st):W (cB .mul (.int i) (.int j) st) Q:=by simp only[cB,AQ];rw[if_pos<|.inl (show(-big<i/\i<big)∨(-big<j/\j<big) from c)];exact h
theorem w_mod(c:0<j)(h:Q (.int<|i % j) st):W (cB .mod (.int i) (.int j) st) Q:=by
 simp only[cB,ii];rw[if_pos (by omega),Int.fmod_eq_emod_of_nonneg i (by omega)];exact h
theorem lZ(c:0<j/\j<4611686018427387904)(h:Q (.int<|i / j) st):W (cB .fdiv (.int i) (.int j) st) Q:=by
 simp only[cB,ii];rw[if_pos ⟨by omega,ao (show j.natAbs<4611686018427387904 by omega) (by decide)⟩,Int.fdiv_eq_ediv_of_nonneg i (by omega)];exact h
theorem jQ{as bs:List D}(z:st[m]? =some (.lst as))(c:st[n]? =some (.lst bs))(B:as.length+bs.length<=1000000)(h:Q (.ref st.length) (st++[.lst<|as++bs])):W (cB .add (.ref m) (.ref n) st) Q:=by simp only[cB,addD,z,c];rw[if_pos B];exact h
theorem w_eq{k:Bool}(e:kY st x y=some k)(h:Q (.bl k) st):W (cZ .Eq x y st) Q:=by simp only[cZ,e];exact h
theorem jO{k:Bool}(e:kY st x y=some k)(h:Q (.bl<|!k) st):W (cZ .NotEq x y st) Q:=by simp only[cZ,e];exact h
theorem k9(h:Q (.bl<|decide<|i=j) st):W (cZ .Eq (.int i) (.int j) st) Q:=w_eq (k:=decide<|i=j) rfl h
theorem yX(h:Q (.bl<|!decide (i=j)) st):W (cZ .NotEq (.int i) (.int j) st) Q:=jO (k:=decide<|i=j) rfl h
theorem w_lt(h:Q (.bl<|decide<|i<j) st):W (cZ .Lt (.int i) (.int j) st) Q:=h
theorem w5(h:Q (.bl<|decide<|j<i) st):W (cZ .Gt (.int i) (.int j) st) Q:=h
theorem dg(e:iM xs i=some d)(h:Q d st):W (index (.tup xs) (.int i) st) Q:=by simp only[index,bO,e];exact h
theorem bI(c:st[n]? =some (.lst xs))(e:iM xs i=some d)(h:Q d st):W (index (.ref n) (.int i) st) Q:=by simp only[index,bO,c,e];exact h
theorem c5{k:Str}(c:st[n]? =some (.dct kvs))(e:bV kvs (.inr k)=some d)(h:Q d st):W (index (.ref n) (.str k) st) Q:=by simp only[index,BR,c,e];exact h
theorem eP(c:st[n]? =some (.dct kvs))(e:bV kvs (.inl i)=some d)(h:Q d st):W (index (.ref n) (.int i) st) Q:=by simp only[index,bO,BR,c,e];exact h
theorem im(c:st[n]? =some (.dct kvs))(h:Q (.ref st.length) (st++[.dct kvs])):W (dD .dict [.ref n] st) Q:=by simp only[dD,oU,c];exact h
theorem cy{k:Key}{Q:Unit->aU->Prop}(c:st[n]? =some (.dct kvs))(B:ke x=some k)(z:kvs.length<1000000)(h:Q () (st.set n<|.dct<|bD kvs k v)):W (ip (.ref n) x v st) Q:=by simp only[ip,c,B];rw[if_pos z];exact h
theorem wW{c f:Str}{fs:List (Str×D)}{ics:List Str}{Q:Unit->aU->Prop}(z:st[n]? =some (.ins c fs))(B:fs.length<900/\c∈ics)(h:Q () (st.set n<|.ins c<|putD f v fs)):W (nS cs ics (.ref n) f v st) Q:=by simp only[nS,z];rw[if_pos B];exact h
theorem wE{xs:List α}(h0:0<=i)(h1:i<xs.length):∃d,iM xs i=some d/\xs[i.toNat]? =some d:=by
 have hi:i.toNat<xs.length:=by omega
 refine⟨xs[i.toNat],?_,by simp[hi]⟩
 unfold iM sO;rw[if_pos h0,if_pos h1];show xs[i.toNat]? =_;simp[hi]
theorem gX(h:Q (.int xs.length) st):W (dD .len [.tup xs] st) Q:=h
theorem cU(c:st[n]? =some (.lst xs))(h:Q (.int xs.length) st):W (dD .len [.ref n] st) Q:=by simp only[dD,oU,bO,c];exact h
theorem wY(h:Q (.ref st.length) (st++[.lst xs])):W (dD .list [.tup xs] st) Q:=h
theorem qk(c:st[n]? =some (.lst xs))(h:Q (.ref st.length) (st++[.lst xs])):W (dD .list [.ref n] st) Q:=by simp only[dD,oU,bO,c];exact h
theorem nD(c:st[n]? =some (.lst xs))(h:Q (.tup xs) st):W (dD .tuple [.ref n] st) Q:=by simp only[dD,oU,bO,c];exact h
theorem BW(c:¬(HT.cV xs.length 0 lo=0/\HT.cV xs.length xs.length hi=xs.length))(h:Q (.tup<|cutD xs lo hi) st):W (slice (.tup xs) lo hi st) Q:=by simp only[slice];rw[if_neg c];exact h
theorem nE(c:st[n]? =some (.lst xs))(h:Q (.ref st.length) (st++[.lst<|cutD xs lo hi])):W (slice (.ref n) lo hi st) Q:=by simp only[slice,bO,c];exact h
theorem ce{Q:Unit->aU->Prop}(c:st[n]? =some (.lst xs))(h:Q () st):W (oi (.ref n) st) Q:=by simp only[oi,c];exact h
theorem bU{Q:Unit->aU->Prop}(c:st[n]? =some (.lst xs))(z:xs.length<1000000)(h:Q () (st.set n<|.lst<|xs++[v])):W (append (.ref n) v st) Q:=by simp only[append,c];rw[if_pos z];exact h
end
def Gr(st st':aU):Prop:=∃t,st'=st++t
theorem Gr.refl(st:aU):Gr st st:=⟨[],by simp⟩
theorem Gr.trans{c:aU}(h:Gr a b)(k:Gr b c):Gr a c:=by
 obtain⟨t,rfl⟩:=h;obtain⟨u,rfl⟩:=k;exact⟨t++u,by simp⟩
theorem Gr.one(st:aU)(o:O):Gr st (st++[o]):=⟨[o],rfl⟩
theorem Gr.more(h:Gr a b)(o:O):Gr a (b++[o]):=h.trans<|.one b o
theorem Gr.le(h:Gr a b):a.length<=b.length:=by obtain⟨t,rfl⟩:=h;simp
theorem Gr.at(h:Gr a b)(e:a[i]? =some o):b[i]? =some o:=by obtain⟨t,rfl⟩:=h;have:=(aq e).1;rw[aB this];exact e
theorem aG:(st++[o])[st.length]? =some o:=by simp
theorem aZ{t:aU}(e:st[i]? =some o):(st++t)[i]? =some o:=by have:=(aq e).1;rw[aB this];exact e
theorem bS{j:Int}(h: -1000000<=j/\j<=1000000):eQ true (.int j)=some (.its<|bx j.toNat):=by simp only[eQ];rw[if_pos h]
theorem bp(n:Nat):(bx n).length=n:=by simp[bx]
theorem bB(h:n<st.length):(st.set n o)[n]? =some o:=by rw[aK h]
theorem t9{a b:O}:(st++[a,b])[st.length]? =some a:=by simp
theorem BY{a b:O}:(st++[a,b])[st.length+1]? =some b:=by simp
theorem bJ{a b:O}:(st++[a]).set st.length b=st++[b]:=by simp
theorem fT{a b c:O}:(st++[a,b]).set st.length c=st++[c,b]:=by simp
section
variable{g:eX}{loc:Loc}{st:aU}{Q:D->aU->Prop}{a b c e:Ex}
theorem zN(h:W (run g a loc st) λx st1=>∃n kv0,x=.ref n/\st1[n]? =some (.dct kv0)/\W (run g b loc st1) λk F=>W (run g c loc F) λz B=>∃kvs i,B[n]? =some (.dct kvs)/\ke k=some i/\Q ((bV kvs i).getD z) B):W (run g (.dget a b c) loc st) Q:=by refine aP<|h.mono λx st1 H=>?_;obtain⟨n,kv0,e,U,q⟩:=H;subst e;refine aP ?_;simp only[lP,fM,U];refine aP<|q.mono λk F q=>aP<|q.mono λz B H=>?_;obtain⟨kvs,i,J,I,q⟩:=H;simp only[wm,fM,J,I];exact q
theorem tR{c:Ty}(h:W (run g a loc st) λy st1=>∃k,A4 c y=some k/\Q (.bl k) st1):W (run g (.isi a c) loc st) Q:=by
 exact aP<|h.mono λy st1 ⟨k,e,q⟩=>aP (by rw[e];exact q)
theorem Ef(h:W (run g a loc st) λy st1=>∃n xs,y=.ref n/\st1[n]? =some (.lst xs)/\Q (.ref st1.length) (st1++[.lst xs.reverse])):W (run g (.rv a) loc st) Q:=by
 exact aP (h.mono λy st1 ⟨n,xs,e,e1,q⟩=>by subst e;simp only[EF,e1];exact q)
theorem dB{tb:List (Str×Bool)}(h:W (run g a loc st) λy st1=>∃n c fs b,y=.ref n/\st1[n]? =some (.ins c fs)/\tb.lookup c=some b/\Q (.bl b) st1):W (run g (.isk a tb) loc st) Q:=by
 exact aP (h.mono λy st1 ⟨n,c,fs,b,e,e1,e2,q⟩=>by subst e;simp only[A3,e1,e2];exact q)
theorem yW{is:List Nat}{ss:List S}{Q:Fl->aU->Prop}(h:W (run g e loc st) λd st1=>∃ds,d=.tup ds/\ds.length=is.length/\W (execs g ss (iV is ds loc) st1) Q):W (execs g (.unp is e::ss) loc st) Q:=
 cw (by exact aP<|h.mono λd st1 ⟨ds,e,hl,q⟩=>aP (by subst e;simp only[items?,if_pos hl];exact q))
theorem xa(h:W (run g a loc st) λx st1=>∃n kv0,x=.ref n/\st1[n]? =some (.dct kv0)/\W (run g b loc st1) λk c=>∃kvs i,c[n]? =some (.dct kvs)/\k=.int i/\Q ((bV kvs<|.inl i).getD .non) c):W (run g (.dget1 a b) loc st) Q:=by refine aP<|h.mono λx st1 z=>?_;obtain⟨n,kv0,e,F,q⟩:=z;subst e;refine aP ?_;simp only[lP,fM,F];refine aP<|q.mono λk c z=>?_;obtain⟨kvs,i,B,rfl,q⟩:=z;simp only[p9,fM,B,ke];exact q
theorem zD(h:W (run g a loc st) λx st1=>∃n y ys,x=.ref n/\st1[n]? =some (.lst<|y::ys)/\Q y (st1.set n<|.lst ys)):W (run g (.pop a true) loc st) Q:=by
 exact aP (h.mono λx st1 ⟨n,y,ys,e,e1,q⟩=>by subst e;simp only[u9,e1];exact q)
theorem tN(h:W (run g a loc st) λx st1=>∃n y ys,x=.ref n/\st1[n]? =some (.lst<|ys++[y])/\Q y (st1.set n<|.lst ys)):W (run g (.pop a false) loc st) Q:=by
 exact aP (h.mono λx st1 ⟨n,y,ys,e,e1,q⟩=>by
  subst e;have c:(ys++[y])[(ys++[y]).length - 1]? =some y:=by simp
  simp only[u9,e1,false_eq_true,if_false,c,List.dropLast_concat];exact q)
theorem gK:∀ns:List Int,lD (ns.map .int)=some ns
 |[]=>rfl
 |n::ns=>by simp only[map_cons,lD,gK ns,Option.map_some]
theorem zy(h:W (run g a loc st) λy st1=>∃ns,bO st1 y=some (ns.map .int)/\ns.length<=2/\(∀n∈ns,0<=n/\n<10)/\Q (.ref st1.length) (st1++[.lst<|(Tab23.iq ns).map .int])):W (run g (.sset a) loc st) Q:=by
 exact aP (h.mono λy st1 ⟨ns,e,e1,e2,q⟩=>by simp only[uk,e,gK];rw[if_pos ⟨e1,all_eq_true.mpr λn c=>decide_eq_true<|e2 n c⟩];exact q)
theorem tL{ns:List Int}(c:st[n]? =some (.lst<|ns.map .int))(z:ns.length<64)(h:Q (.ref st.length) (st++[.lst<|(Tab23.dX ns).map .int])):W (dD .sorted [.ref n] st) Q:=by simp only[dD,oU,numsOf,c,gK];rw[if_pos z];exact h
theorem rS{ns:List Str}(c:st[n]? =some (.dct kvs))(B:ji kvs=some ns)(z:ns.length<64)(hs:PyProof.Rows.sortedS (Tab23.eB ns)=true)(h:Q (.ref st.length) (st++[.lst<|(Tab23.eB ns).map .str])):W (dD .sorted [.ref n] st) Q:=by simp only[dD,oU,numsOf,o8,c,B];rw[if_pos ⟨z,hs⟩];exact h
theorem w_sum{ns:List Int}(c:st[n]? =some (.lst<|ns.map .int))(h:Q (.int ns.sum) st):W (dD .sum [.ref n] st) Q:=by simp only[dD,oU,numsOf,c,gK];exact h
theorem jh{b:Bool}(h:Q (.int (if b then 1 else 0)) st):W (dD .int [.bl b] st) Q:=h
theorem w_{ps:List (Key×D)}(z:st[n]? =some (.lst xs))(c:su xs=some ps)(h:Q (.ref st.length) (st++[.dct<|rF ps])):W (dD .dict [.ref n] st) Q:=by simp only[dD,oU,z,c];exact h
variable{i j:Int}
theorem w_pow(c:0<=j/\j<=1000/\i.natAbs<1000)(h:Q (.int<|i^j.toNat) st):W (cB .pow (.int i) (.int j) st) Q:=by simp only[cB,ii];rw[if_pos c];exact h
theorem tP{k:Key}(c:st[n]? =some (.dct kvs))(z:ke x=some k)(h:Q (.bl<|!(bV kvs k).isSome) st):W (cZ .NotIn x (.ref n) st) Q:=by simp only[cZ,bO,jd,c,z];exact h
theorem nF{ys:List D}{k:Bool}(c:st[n]? =some (.lst ys))(e:fN x ys=some k)(h:Q (.bl<|!k) st):W (cZ .NotIn x (.ref n) st) Q:=by simp only[cZ,bO,c,e];exact h
theorem yY{k:Key}(c:st[n]? =some (.dct kvs))(z:ke x=some k)(h:Q (.bl (bV kvs k).isSome) st):W (cZ .In x (.ref n) st) Q:=by simp only[cZ,bO,jd,c,z];exact h
end
section
variable{g:eX}{loc:Loc}{st:aU}{Q:Fl->aU->Prop}{ss:List S}{e a b:Ex}
theorem dk{rng:Bool}{body:List S}(h:W (run g e loc st) λd st1=>∃s,eQ rng d=some s/\W (fO (λx c=>execs g body<|c.set n<|some x) s loc st1) (Kn g ss Q)):W (execs g (.for_ n rng e body::ss) loc st) Q:=
 cw (by exact aP<|h.mono λ_ _ ⟨s,e,q⟩=>aP (by unfold fe;rw[e];exact q))
theorem jz{is:List Nat}{body:List S}(h:W (run g e loc st) λd st1=>∃s,rG d=some s/\W (fO (λx c=>bg (items? is.length x) λds=>execs g body<|iV is ds c) s loc st1) (Kn g ss Q)):W (execs g (.forE is e body::ss) loc st) Q:=
 cw (by exact aP<|h.mono λ_ _ ⟨s,e,q⟩=>aP (by unfold fe;rw[e];exact q))
theorem w9{body:List S}(h:W (run g e loc st) λd st1=>∃i,d=.int i/\(-1000000<=i/\i<=1000000)/\W (fO (λx c=>execs g body<|c.set n<|some x) (.its<|eJ i (i+1).toNat) loc st1) (Kn g ss Q)):W (execs g (.forD n e body::ss) loc st) Q:=
 cw (by exact aP<|h.mono λd st1 ⟨i,e,e1,q⟩=>aP (by subst e;simp only[mm,if_pos e1,fe];exact q))
theorem zO(h:Q (.ct loc) st):W (execs g (.cont::ss) loc st) Q:=cw (by exact h)
theorem zQ(h:W (run g a loc st) λx st1=>W (run g b loc st1) λk B=>∃n,∃j:Nat,∃xs,∃m l:Int,x=.ref n/\k=.int j/\B[n]? =some (.lst xs)/\xs[j]? =some (.int m)/\W (run g e loc B) λz c=>z=.int l/\c[n]? =some (.lst xs)/\W (execs g ss loc<|c.set n<|.lst<|xs.set j<|.int<|m+l) Q):W (execs g (.augx a b e::ss) loc st) Q:=
 cw (by
  refine aP<|h.mono λx st1 q=>aP<|q.mono λk B H=>aP ?_;obtain⟨n,j,xs,m,l,e1,e2,e3,J,Y⟩:=H;subst e1 e2;have hj:=(aq J).1;have F:sO xs.length (j:Int)=some j:=by unfold sO;rw[if_pos (by omega),if_pos (by omega)];simp
  have I:iM xs (j:Int)=some (.int m):=by unfold iM;rw[F];exact J
  simp only[getL,e3,I,Int.natCast_nonneg,if_true];refine aP<|Y.mono λz c H=>?_;obtain⟨e5,Z,U⟩:=H;subst e5;refine aP<|aP ?_;simp only[putL,Z,F];exact U)
theorem wZ{ds:List D}{f:List D->M Fl}(c:ds.length=n)(h:W (f ds st) Q):W ((bg (items? n<|.tup ds) f) st) Q:=aP (by unfold items?;dsimp only;rw[if_pos c];exact h)
theorem lY{f:D->Loc->M Fl}{s:Src}{L:List D}(I:Nat->Loc->aU->Prop)(nx:∀i loc st,I i loc st->nxt s i st=some L[i]?)(step:∀i x loc st,L[i]? =some x->I i loc st->W (f x loc st) (Kf (I<|i+1) Q))
  (fin:∀loc st,I L.length loc st->Q (.nx loc) st):∀k i loc st,i<=L.length->L.length<k+i->I i loc st->W (i9 f s k i loc st) Q
 |0,i,loc,st,h1,h2,h=>by omega
 |k+1,i,loc,st,h1,h2,h=>by
  simp only[i9,nx i loc st h];cases e:L[i]? with
  |none=>
   have:i=L.length:=by have:=List.getElem?_eq_none_iff.mp e;omega
   subst this;exact fin loc st h
  |some x=>
   have hi:=(aq e).1;refine aP<|(step i x loc st e h).mono λr st1 q=>?_;cases r with
   |nx loc'=>exact lY I nx step fin k (i+1) loc' st1 hi (by omega) q
   |ct loc'=>exact lY I nx step fin k (i+1) loc' st1 hi (by omega) q
   |_=>exact q
theorem cj{f:D->Loc->M Fl}{s:Src}(c:L.length<=bG s st)(I:Nat->Loc->aU->Prop)(h0:I 0 loc st)(nx:∀i loc st,I i loc st->nxt s i st=some L[i]?)(step:∀i x loc st,L[i]? =some x->I i loc st->W (f x loc st) (Kf (I<|i+1) Q))
  (fin:∀loc st,I L.length loc st->Q (.nx loc) st):W (fO f s loc st) Q:=by
 unfold fO;exact lY I nx step fin _ 0 loc st (zero_le _) (by omega) h0
theorem BX{f:D->Loc->M Fl}{s:Nat->Src}(J:st[n]? =some (.dct kvs))(hs:bG (s n) (st.set n<|.dcf kvs)=L.length)(F:∀st',st'[n]? =some (.dcf kvs)->∀i,nxt (s n) i st'=some L[i]?)(I:Nat->Loc->aU->Prop)(h0:I 0 loc (st.set n<|.dcf kvs))(z:∀i loc st,I i loc st->st[n]? =some (.dcf kvs))
  (step:∀i x loc st,L[i]? =some x->I i loc st->W (f x loc st) (Kf (I<|i+1) λ_ _=>False))(fin:∀loc st,I L.length loc st->Q (.nx loc) (st.set n<|.dct kvs)):W ((bg (pY<|.ref n) λn=>bg (fO f (s n) loc) λr=>ub n r) st) Q:=by
 refine aP ?_;simp only[pY,J];refine aP<|W.mono (cj (Q:=λr st'=>∃c,r=.nx c/\I L.length c st') (by rw[hs];exact aa _) I h0 (λi l st' hi=>F st' (z i l st' hi) i) (λi x l st' e hi=>(step i x l st' e hi).mono λr B q=>?_) λl st' hi=>⟨l,rfl,hi⟩) λr st' H=>?_
 .cases r with
  |rt d=>exact q.elim
  |ex n l=>exact q.elim
  |_=>exact q
 .obtain⟨c,rfl,hi⟩:=H;simp only[ub,z _ _ _ hi];exact fin c st' hi
theorem w6{body:List S}(h:W (run g e loc st) λd st1=>∃n kvs,∃I:Nat->Loc->aU->Prop,d=.ref n/\st1[n]? =some (.dct kvs)/\I 0 loc (st1.set n<|.dcf kvs)/\(∀i loc st,I i loc st->st[n]? =some (.dcf kvs))/\
  (∀i p loc st,kvs[i]? =some p->I i loc st->W (execs g body (loc.set m<|some p.2) st) (Kf (I<|i+1) λ_ _=>False))/\∀loc st,I kvs.length loc st->W (execs g ss loc<|st.set n<|.dct kvs) Q):W (execs g (.forW m e body::ss) loc st) Q:=
 cw (by
  refine aP<|h.mono λd st1 z=>?_;obtain⟨n,kvs,I,rfl,c,h0,F,step,fin⟩:=z;have B:n<st1.length:=(aq c).1;refine BX (Q:=Kn g ss Q) (s:= .dv) (L:=kvs.map λp=>p.2) c (by simp only[bG,List.getElem?_set_self B,length_map]) (λst' e i=>by simp only[nxt,e,List.getElem?_map]) I h0 F (λi x l st' e hi=>?_) λl st' hi=>fin l st' (by simpa using hi)
  rw[aj] at e;obtain⟨p,J,H⟩:=map_eq_some_iff.mp e;subst H;exact step i p l st' J hi)
end
section
variable{st:aU}{Q:D->aU->Prop}{f:D->M (Option D)}
theorem jP{s:Src}{L:List D}{Q:List D->aU->Prop}(I:Nat->List D->aU->Prop)(nx:∀i acc st,I i acc st->nxt s i st=some L[i]?)(step:∀i x acc st,L[i]? =some x->I i acc st->W (f x st) λo st1=>I (i+1) (match o with|some y=>acc++[y]|none=>acc) st1)
  (fin:∀acc st,I L.length acc st->Q acc st):∀k i acc st,i<=L.length->L.length<k+i->I i acc st->W (eL f s k i acc st) Q
 |0,i,acc,st,h1,h2,h=>by omega
 |k+1,i,acc,st,h1,h2,h=>by
  simp only[eL,nx i acc st h];cases e:L[i]? with
  |none=>
   have:i=L.length:=by have:=List.getElem?_eq_none_iff.mp e;omega
   subst this;exact fin acc st h
  |some x=>
   have hi:=(aq e).1;refine aP<|(step i x acc st e h).mono λo st1 q=>?_;cases o with
   |none=>exact jP I nx step fin k (i+1) acc st1 hi (by omega) q
   |some y=>exact jP I nx step fin k (i+1) (acc++[y]) st1 hi (by omega) q
theorem b5{s:Src}(c:bG s st<=1000000)(z:L.length<=bG s st)(I:Nat->List D->aU->Prop)(h0:I 0 [] st)(nx:∀i acc st,I i acc st->nxt s i st=some L[i]?)(step:∀i x acc st,L[i]? =some x->I i acc st->W (f x st) λo st1=>I (i+1) (match o with|some y=>acc++[y]|none=>acc) st1)
  (fin:∀acc st,I L.length acc st->Q (.ref st.length) (st++[.lst acc])):W (cY f s st) Q:=by
 unfold cY;rw[if_pos c];exact aP<|W.mono (jP (Q:=λacc st=>Q (.ref st.length)<|st++[.lst acc]) I nx step fin _ 0 [] st (zero_le _) (by omega) h0) λacc st q=>(show Q (.ref st.length) (st++[.lst acc]) from q)
theorem cz{c:Loc->M D}{Q:Option D->aU->Prop}(h:W (run g e (some x::loc) st) λy st1=>Q (some y) st1):W (eF c (run g e) false false loc x st) Q:=
 aP (m:=own false x) (aP (m:=ret true)<|aP<|h.mono λ_ _ q=>q)
theorem il{c:Loc->M D}{Q:Option D->aU->Prop}(h:W (run g e (some x::some y::loc) st) λy st1=>Q (some y) st1):W (eF c (run g e) false true loc (.tup [x,y]) st) Q:=
 aP (m:=own true<|.tup [x,y]) (show W (ret [x,y] st) _ from aP (m:=ret true)<|aP<|h.mono λ_ _ q=>q)
theorem xb{a b:Ex}{Q:D->aU->Prop}(h:W (run g a loc st) λx st1=>W (run g b loc st1) λy z=>∃s,jA x y=some s/\W (cY (eF (run g c) (run g e) true false loc) s z) Q):W (run g (.compR a b c e) loc st) Q:=by
 exact aP<|h.mono λ_ _ q=>aP<|q.mono λ_ _ ⟨s,e,q⟩=>aP (by unfold fe;rw[e];exact q)
theorem xc{a:Ex}{Q:D->aU->Prop}(h:W (run g a loc st) λd st1=>∃n kvs,∃I:Nat->List D->aU->Prop,d=.ref n/\st1[n]? =some (.dct kvs)/\kvs.length<=1000000/\I 0 [] (st1.set n<|.dcf kvs)/\(∀i acc st,I i acc st->st[n]? =some (.dcf kvs))/\
  (∀i p acc st,kvs[i]? =some p->I i acc st->W (run g e (some (kD p.1)::some p.2::loc) st) λy st1=>I (i+1) (acc++[y]) st1)/\∀acc st,I kvs.length acc st->Q (.ref st.length) ((st++[O.lst acc]).set n<|.dct kvs)):W (run g (.compI a e) loc st) Q:=by
 refine aP<|h.mono λd st1 Z=>?_;obtain⟨n,kvs,I,rfl,H,hl,h0,J,hs,Y⟩:=Z;have B:n<st1.length:=(aq H).1;have U:(st1.set n<|.dcf kvs)[n]? =some (.dcf kvs):=by rw[aK B]
 refine aP ?_;simp only[pY,H];refine aP<|b5 (L:=kvs.map λp=>.tup [kD p.1,p.2]) (by simp only[bG,U];exact hl) (by simp only[bG,U,length_map];exact aa _) I h0 (λi acc st hi=>by simp only[nxt,J i acc st hi,List.getElem?_map]) (λi x acc st c hi=>?_)<|λacc st hi=>?_
 .rw[aj] at c;cases q:kvs[i]? with
  |none=>rw[q] at c;cases c
  |some p=>rw[q] at c;cases c;exact il<|hs i p acc st q hi
 .rw[length_map] at hi;have z:=J _ acc st hi;have F:n<st.length:=(aq z).1;have:(st++[O.lst acc])[n]? =some (.dcf kvs):=by rw[aB F];exact z
  simp only[xi,this];exact Y acc st hi
theorem iR{Q:Option D->aU->Prop}(h:W (run g c (some x::loc) st) λz st1=>∃k,z=.bl k/\(k=true->W (run g e (some x::loc) st1) λy B=>Q (some y) B)/\(k=false->Q none st1)):W (eF (run g c) (run g e) true false loc x st) Q:=
 aP (m:=own false x) (aP (aP (h.mono λz st1 ⟨k,e,q1,q2⟩=>by
  subst e;cases k with
  |true=>exact aP ((q1 rfl).mono λ_ _ q=>q)
  |false=>exact q2 rfl)))
end
theorem Gr.set(h:Gr a b)(c:a.length<=n):Gr a (b.set n o):=by
 obtain⟨t,rfl⟩:=h;exact⟨t.set (n - a.length) o,by rw[List.set_append_right _ _ c]⟩
namespace K63
variable{P:D->Prop}{d e kd t x:D}{f:Str}{L0 a b b' f1 f2 f3 i j l m ma n nd p pa pm r ra rn v w y:Nat}{c s s0 st st' st1:aU}{ss:List S}{Q:Fl->aU->Prop}{loc:Loc}{g:eX}{o:O}{tk xs ys:List D}{kv kvs:List (Key×D)}{α β:Type}{Bs Ts Ws:List (List Nat)}{F L T' X rs ws:List Nat}{N:Nat->Option Nat}{ca x5 x6 x7 x8 x9:Option D}{ns pn:List Int}
noncomputable abbrev cI(i:Int):Ex:= .c<|.int i
noncomputable abbrev cX(s:Str):Ex:= .c<|.str s
noncomputable abbrev rf(n:Nat):Option D:=some<|.ref n
noncomputable abbrev nt(i:Int):Option D:=some<|.int i
noncomputable abbrev ls(xs:List D):Option O:=some<|.lst xs
noncomputable abbrev dt(kv:List (Key×D)):Option O:=some<|.dct kv
def vY:S:= .forE [7,8] (.fld (.v 5) "blocks" [] ["Function"]) [.set 9<|.meth (.fld (.v 8) "end" [] ["Block"]) "told" [("Jump",31),("Branch",34),("Back",37),("Raise",39),("Risk",41)] [],.set 1<|.bin .add (.v 1)<|.bt .int [.and (.cmp .Eq (.ix (.v 9)<|cI 0)<|cX "risk")<|.cmp .Eq (.ix (.v 9)<|cI 1)<|cX "call"],.set 2<|.bin .add (.v 2)<|.fn 25 [.v 9],.set 3<|.bin .add (.bin .add (.v 3)<|.bt .len [.fld (.v 8) "rows" [] ["Block"]])<|.bin .mul (.bt .len [.fld (.v 8) "params" [] ["Block"]])<|.bt .int [.cmp .Gt (.v 7)<|cI 0],.set 4<|.bin .add (.v 4)<|.bin .mul (.bt .len [.fld (.v 8) "rows" [] ["Block"]])<|.bt .len [.ix (.v 6)<|.v 7]]
def vT:Ex:= .or (.cmp .In (.v 4)<|.lst [cX "and",cX "or",cX "not"])<|.and (.cmp .Eq (.v 4)<|cX "copy")<|.cmp .Eq (.bin .mod (.fn 14 [.v 1])<|cI 2)<|cI 1
def g_row:List S:=[.set 6 vT,.set 7<|.ix (.lst [.tup [cX "num"],.tup [cX "truth"]])<|.bt .int [.v 6],.set 8<|.comp .rng false (.bin .sub (cI 2)<|.bt .int [.cmp .In (.v 4)<|.lst [cX "neg",cX "copy",cX "not"]]) (.c .non) false<|.fn 18 [.v 1,.v 2,.v 3,.v 8],.ite (.cmp .Eq (.v 4)<|cX "make") [.ret<|.new "Row" 28 [.fn 17 [.v 0,.v 1,.tup [cX "row",cI 2]],.v 4,.tup [cX "row",cI 2],.v 8]] [],.ite (.cmp .Eq (.v 4)<|cX "get") [.ret<|.new "Row" 28 [.fn 17 [.v 0,.v 1,.v 7],.v 4,.bin .mod (.fn 14 [.v 1])<|cI 2,.lst [.tup [cX "name",.ix (.v 5)<|cI<|-1]]]] [],.set 9<|.ix (.lst [.v 7,.tup [cX "truth"]])<|.bt .int [.cmp .In (.v 4)<|.lst [cX "less",cX "same"]],.ret<|.new "Row" 28 [.fn 17 [.v 0,.v 1,.v 9],.v 4,.c .non,.v 8]]
def pW:List S:=[.for_ 8 true (.bin .mod (.fn 14 [.v 1])<|cI 4) [.app (.v 7)<|.fn 19 [.v 0,.v 1,.v 4],.app (.v 4)<|.fld (.ix (.v 7)<|cI<|-1) "name" [] ["Row"],.app (.v 6)<|.fld (.ix (.v 7)<|cI<|-1) "name" [] ["Row"]],.ite (.cmp .Eq (.bin .mod (.fn 14 [.v 1])<|cI 3)<|cI 0) [.set 9<|.ix (.lst [.tup [cX "num"],.tup [cX "truth"]])<|.bin .mod (.fn 14 [.v 1])<|cI 2,.app (.v 7)<|.new "Row" 28 [.c .non,cX "log",.c .non,.lst [.fn 18 [.v 0,.v 1,.v 4,.v 9]]]] [],.app (.ix (.v 0)<|cX "pools")<|.v 4,.setix (.ix (.v 0)<|cX "given") (.v 2)<|.v 6,.ret<|.v 7]
def vV:S:= .for_ 5 true (.bt .len [.v 3]) [.set 6<|.comp .rng false (.bin .mod (.fn 14 [.v 0])<|cI 3) (.c .non) false<|.ix (.lst [.tup [cX "num"],.tup [cX "truth"]])<|.bin .mod (.fn 14 [.v 1])<|cI 2,.ite (.cmp .Eq (.v 5)<|cI 0) [.set 6<|.bt .list [.v 1]] [.ite (.cmp .In (.ix (.ix (.v 3)<|.bin .sub (.v 5)<|cI 1)<|cI 0)<|.lst [cX "risk",cX "call"]) [.set 6<|.bin .add (.lst [.tup [cX "num"]])<|.sl (.v 6) (cI 1) (cI 1) false true] []],.app (.ix (.v 4)<|cX "params")<|.comp .seq false (.v 6) (.c .non) false<|.fn 17 [.v 5,.v 1,.v 0]]
def vU:S:= .forD 7 (.bin .sub (.bt .len [.v 1])<|cI 2) [.set 8<|.fn 4 [.comp .seq false (.ix (.v 4)<|.v 7) (.cmp .In (.ix (.v 2)<|.v 0)<|.v 6) true<|.ix (.v 2)<|.v 0,.v 5,.v 2],.ite (.cmp .NotEq (.dget1 (.v 5)<|.ix (.v 1)<|.v 7)<|.v 8) [.setix (.v 5) (.ix (.v 1)<|.v 7)<|.v 8,.set 6<|.c<|.bl true] []]
def vS:S:= .whil (.cmp .NotEq (.v 4)<|.lst []) [.set 5<|.pop (.v 4) false,.ite (.and (.cmp .NotEq (.v 5)<|.v 2)<|.cmp .NotIn (.v 5)<|.v 3) [.app (.v 3)<|.v 5,.set 4<|.bin .add (.v 4)<|.ix (.ix (.v 0)<|.v 5)<|cI 1] []]
def vW:Ex:= .comp .seq false (.fld (.v 5) "blocks" [] ["Function"]) (.c .non) false<|.tup [cX "",.comp .seq true (.meth (.fld (.v 0) "end" [] ["Block"]) "edges" [("Jump",32),("Branch",35),("Back",29),("Raise",29),("Risk",42)] []) (.c .non) false<|.ix (.v 0)<|cI 0]
def vZ:List S:=[.set 8<|.lst [],.forE [5,9] (.v 3) [.app (.v 8)<|.new "Block" 43 [.ix (.ix (.v 4)<|cX "params")<|.v 5,.ix (.v 7)<|.v 5,.fn 22 [.v 4,.v 0,.v 5,.v 9]]],.ret<|.new "Function" 44 [.v 1,.tup [cX "num"],.ix (.v 4)<|cX "kinds",.v 8]]
def rm:Ex:= .ix (.lst [cX "jump",cX "branch",cX "branch",cX "risk",.ix (.lst [cX "risk",cX "call"])<|.v 1,cX "risk"])<|.bin .mod (.fn 14 [.v 0])<|cI 6
def vX:List S:=[.app (.v 3)<|.tup [.v 5,.sl (.lst [.bin .add (.v 4)<|cI 1,.v 6]) (.bin .add (cI 1)<|.bt .int [.v 7]) (.bin .add (cI 1)<|.bt .int [.v 7]) false true]]
noncomputable abbrev sT:Nat:=0
def jb:Fn:=⟨1,1,[.ret<|.and (.isk (.v 0) [("Jump",false),("Branch",false),("Back",false),("Raise",false),("Risk",true)])<|.cmp .Eq (.fld (.v 0) "op" [] ["Row","Risk"])<|cX "call"]⟩
noncomputable abbrev kq:Nat:=1
def d7:Fn:=⟨3,8,[.set 3<|.lst [],.setix (.v 2) (.v 1)<|.c<|.bl true,.set 4<|.lst [.tup [.v 1,cI 0]],.whil (.cmp .Gt (.bt .len [.v 4])<|cI 0) [.set 5<|.pop (.v 4) false,.set 6<|.ix (.v 5)<|cI 0,.ite (.cmp .Eq (.ix (.v 5)<|cI 1)<|.bt .len [.ix (.v 0)<|.v 6]) [.app (.v 3)<|.v 6,.cont] [],.app (.v 4)<|.tup [.v 6,.bin .add (.ix (.v 5)<|cI 1)<|cI 1],.set 7<|.ix (.ix (.v 0)<|.v 6)<|.ix (.v 5)<|cI 1,.ite (.cmp .NotIn (.v 7)<|.v 2) [.setix (.v 2) (.v 7)<|.c<|.bl true,.app (.v 4)<|.tup [.v 7,cI 0]] []],.ret<|.v 3]⟩
noncomputable abbrev vI:Nat:=2
noncomputable def kE:Fn:=⟨1,5,[.set 1<|.comp .rng false (.bt .len [.v 0]) (.c .non) false<|.lst [],.forE [2,3] (.v 0) [.for_ 4 false (.v 3) [.app (.ix (.v 1)<|.v 4)<|.v 2]],.ret<|.v 1]⟩
noncomputable abbrev i5:Nat:=3
def dq:Fn:=⟨1,9,[.set 1<|.fn 1 [.v 0,cI 0,.emp],.set 2<|.bt .dict [.comp .en true (.v 1) (.c .non) false<|.tup [.v 1,.v 0]],.set 3<|.fn 2 [.v 0],.set 4<|.comp .seq false (.v 1) (.c .non) false<|.bt .sorted [.comp .seq false (.ix (.v 4)<|.v 0) (.cmp .In (.v 0)<|.v 4) true<|.ix (.v 4)<|.v 0],.set 5<|.dict [.inl<|0] [cI 0],.set 6<|.c<|.bl true,.whil (.v 6) [.set 6<|.c<|.bl false,vU],.ret<|.v 5]⟩
noncomputable abbrev kt:Nat:=4
def d8:Fn:=⟨3,6,[.set 3<|.ix (.v 0)<|cI 0,.for_ 4 false (.v 0) [.set 5<|.v 4,.whil (.cmp .NotEq (.v 5)<|.v 3) [.ite (.cmp .Lt (.ix (.v 2)<|.v 5)<|.ix (.v 2)<|.v 3) [.set 5<|.ix (.v 1)<|.v 5] [.set 3<|.ix (.v 1)<|.v 3]]],.ret<|.v 3]⟩
noncomputable abbrev ou:Nat:=5
def gb:Fn:=⟨2,2,[.ret<|.sset<|.comp .seq true (.meth (.fld (.ix (.fld (.v 0) "blocks" [] ["Function"])<|.v 1) "end" [] ["Block"]) "edges" [("Jump",32),("Branch",35),("Back",29),("Raise",29),("Risk",42)] []) (.c .non) false<|.ix (.v 0)<|cI 0]⟩
noncomputable abbrev sR:Nat:=6
noncomputable def i_:Fn:=⟨1,1,[.ret<|.comp .rng false (.bt .len [.fld (.v 0) "blocks" [] ["Function"]]) (.c .non) false<|.fn 5 [.v 1,.v 0]]⟩
noncomputable abbrev kj:Nat:=7
def dZ:Fn:=⟨1,1,[.ret<|.rv<|.fn 1 [.fn 6 [.v 0],cI 0,.emp]]⟩
noncomputable abbrev sS:Nat:=8
def ja:Fn:=⟨1,5,[.set 1<|.lst [cI 0,cI 0,cI 0,cI 0],.for_ 2 false (.meth (.v 0) "names" [("Code",46)] []) [.forE [3,4] (.fn 9 [.meth (.v 0) "function_named" [("Code",47)] [.v 2]]) [.augx (.v 1) (.v 3)<|.v 4]],.ret<|.bt .tuple [.v 1]]⟩
noncomputable abbrev mI:Nat:=9
def fw:Fn:=⟨1,5,[.set 1<|.comp .seq false (.fld (.v 0) "blocks" [] ["Function"]) (.c .non) false<|.fld (.v 0) "end" [] ["Block"],.set 2<|.bt .sum [.comp .seq false (.fld (.v 0) "blocks" [] ["Function"]) (.c .non) false<|.bt .len [.fld (.v 0) "rows" [] ["Block"]]],.set 3<|.bt .sum [.comp .seq false (.sl (.fld (.v 0) "blocks" [] ["Function"]) (cI 1) (cI 1) true false) (.c .non) false<|.bt .len [.fld (.v 0) "params" [] ["Block"]]],.set 4<|.bt .sum [.compI (.fn 11 [.v 0])<|.bin .mul (.v 1)<|.bt .len [.fld (.ix (.fld (.v 2) "blocks" [] ["Function"])<|.v 0) "rows" [] ["Block"]]],.ret<|.tup [.bt .len [.comp .seq false (.v 1) (.fn 0 [.v 0]) true<|.v 0],.bt .sum [.comp .seq false (.v 1) (.c .non) false<|.fn 10 [.v 0]],.bin .add (.v 2)<|.v 3,.v 4]]⟩
noncomputable abbrev vH:Nat:=10
def kC:Fn:=⟨1,1,[.ite (.isk (.v 0) [("Jump",false),("Branch",false),("Back",false),("Raise",false),("Risk",true)]) [.ret<|.bin .add (cI 2)<|.bt .len [.fld (.v 0) "catches" [] ["Risk"]]] [],.ite (.isk (.v 0) [("Jump",false),("Branch",true),("Back",false),("Raise",false),("Risk",false)]) [.ret<|cI 2] [],.ret<|.ite (.isk (.v 0) [("Jump",true),("Branch",false),("Back",false),("Raise",false),("Risk",false)]) (cI 1)<|cI 0]⟩
noncomputable abbrev km:Nat:=11
def d0:Fn:=⟨1,4,[.set 1<|.fn 3 [.fn 6 [.v 0]],.set 2<|.dict [.inl<|0] [cI 0],.for_ 3 false (.fn 7 [.v 0]) [.ite (.cmp .NotEq (.v 3)<|cI 0) [.setix (.v 2) (.v 3)<|.bin .add (.ix (.v 2)<|.ix (.v 1)<|.v 3)<|cI 1] []],.ret<|.v 2]⟩
noncomputable abbrev mK:Nat:=12
def fA:Fn:=⟨2,3,[.set 2<|.bin .mod (.bin .add (.bin .add (.bin .mul (.bin .mod (.v 0)<|cI 2147483629)<|cI 48271)<|.bin .mul (.v 1)<|cI 7919)<|cI 104729)<|cI 2147483629,.set 2<|.bin .mod (.bin .add (.bin .add (.bin .mul (.bin .mod (.bin .mul (.v 2)<|.v 2)<|cI 2147483629)<|cI 16807)<|.bin .mul (.v 1)<|cI 104729)<|cI 11)<|cI 2147483587,.ret<|.bin .mod (.bin .mul (.v 2)<|.v 2)<|cI 2147483587]⟩
noncomputable abbrev kx:Nat:=13
def d_:Fn:=⟨2,6,[.set 2<|.lst [],.for_ 3 false (.v 0) [.set 4<|.v 3,.for_ 5 true (cI 40) [.ite (.cmp .Lt (.v 3)<|.bin .pow (cI 10)<|cI 18) [.app (.v 2)<|.bin .mod (.fn 12 [.v 3,.bt .len [.v 2]])<|cI 1009] [.ite (.cmp .Gt (.v 4)<|cI 0) [.app (.v 2)<|.bin .mod (.v 4)<|cI 1009,.set 4<|.bin .fdiv (.v 4)<|cI 1009] []]]],.whil (.cmp .Lt (.bt .len [.v 2])<|.v 1) [.app (.v 2)<|.bin .mod (.fn 12 [.bt .len [.v 2],.v 1])<|cI 1009],.ret<|.sl (.v 2) (.v 1) (.v 1) false true]⟩
noncomputable abbrev jo:Nat:=14
def gd:Fn:=⟨1,1,[.ite (.cmp .Eq (.v 0)<|.lst []) [.ret<|cI 0] [],.ret<|.pop (.v 0) true]⟩
noncomputable abbrev mJ:Nat:=15
def fy:Fn:=⟨2,8,[.set 2<|.bin .add (cI 2)<|.bin .mod (.fn 14 [.v 0])<|cI 5,.set 3<|.lst [],.for_ 4 true (.bin .sub (.v 2)<|cI 1)<|.set 5 rm:: .set 6 (.bin .add (cI 1)<|.bin .mod (.fn 14 [.v 0])<|.bin .sub (.v 2)<|cI 1):: .set 7 (.or (.cmp .Eq (.v 5)<|cX "branch")<|.and (.cmp .NotEq (.v 5)<|cX "jump")<|.cmp .Eq (.bin .mod (.v 6)<|cI 2)<|cI 1)::vX,.ret<|.bin .add (.v 3)<|.lst [.tup [.ix (.lst [cX "back",cX "back",cX "raise"])<|.bin .mod (.fn 14 [.v 0])<|cI 3,.lst []]]]⟩
noncomputable abbrev ow:Nat:=16
def ge:Fn:=⟨1,7,[.set 1<|.comp .seq false (.v 0) (.c .non) false<|.lst [],.for_ 2 true (.bt .len [.v 0]) [.set 3<|.lst [],.set 4<|.lst [cI 0],vS,.for_ 6 true (.bt .len [.v 0]) [.ite (.and (.cmp .NotIn (.v 6)<|.v 3)<|.cmp .NotEq (.v 6)<|.v 2) [.app (.ix (.v 1)<|.v 6)<|.v 2] []]],.ret<|.v 1]⟩
noncomputable abbrev mL:Nat:=17
def fB:Fn:=⟨3,3,[.setix (.v 0) (cX "last")<|.bin .add (.bin .add (.ix (.v 0)<|cX "last")<|cI 1)<|.bin .mod (.fn 14 [.v 1])<|cI 3,.setix (.ix (.v 0)<|cX "kinds") (.ix (.v 0)<|cX "last")<|.v 2,.ret<|.ix (.v 0)<|cX "last"]⟩
noncomputable abbrev ku:Nat:=18
def d9:Fn:=⟨4,6,[.set 4<|.comp .seq false (.v 2) (.cmp .Eq (.ix (.ix (.v 1)<|cX "kinds")<|.v 0)<|.v 4) true<|.v 0,.set 5<|.fn 14 [.v 1],.ite (.and (.cmp .NotEq (.v 4)<|.lst [])<|.cmp .Gt (.bin .mod (.v 5)<|cI 3)<|cI 0) [.ret<|.tup [cX "name",.ix (.v 4)<|.bin .mod (.bin .fdiv (.v 5)<|cI 3)<|.bt .len [.v 4]]] [],.ite (.cmp .Eq (.v 3)<|.tup [cX "truth"]) [.ret<|.tup [cX "truth",.cmp .Eq (.bin .mod (.bin .fdiv (.v 5)<|cI 3)<|cI 2)<|cI 0]] [],.ret<|.tup [cX "num",.ix (.lst [cI 0,cI 1,cI 2,cI<|-3,cI 0,cI 7])<|.bin .mod (.bin .fdiv (.v 5)<|cI 3)<|cI 6]]⟩
noncomputable abbrev pQ:Nat:=19
def h_:Fn:=⟨3,10,.set 3 (.lst [cX "add",cX "sub",cX "less",cX "same",cX "neg",cX "copy",cX "and",cX "or",cX "not",cX "make",cX "get",cX "add"]):: .set 4 (.ix (.v 3)<|.bin .mod (.fn 14 [.v 1])<|cI 12):: .set 5 (.comp .seq false (.v 2) (.cmp .Eq (.ix (.ix (.v 1)<|cX "kinds")<|.v 0)<|.tup [cX "row",cI 2]) true<|.v 0):: .ite (.and (.cmp .Eq (.v 4)<|cX "get")<|.cmp .Eq (.v 5)<|.lst []) [.set 4<|cX "sub"] []::g_row⟩
noncomputable abbrev oA:Nat:=20
def gi:Fn:=⟨4,10,.set 4 (.bt .list [.ix (.ix (.v 0)<|cX "params")<|.v 2]):: .for_ 5 false (.ix (.ix (.v 0)<|cX "over")<|.v 2) [.set 4<|.bin .add (.v 4)<|.ix (.ix (.v 0)<|cX "given")<|.v 5]:: .set 6 (.bt .list [.ix (.ix (.v 0)<|cX "params")<|.v 2]):: .set 7 (.lst []):: .ite (.cmp .NotEq (.compR (.v 2) (.bt .len [.v 3]) (.cmp .In (.v 3)<|.ix (.ix (.v 4)<|.v 0)<|cI 1)<|.v 0)<|.lst []) [.app (.v 7)<|.new "Row" 28 [.c .non,cX "tick",.c .non,.lst []]] []::pW⟩
noncomputable abbrev oy:Nat:=21
def gf:Fn:=⟨5,6,[.set 5<|.sl (.ix (.ix (.v 0)<|cX "params")<|.v 3) (.bt .int [.v 4]) (.bt .int [.v 4]) true false,.ret<|.tup [.v 3,.bt .tuple [.comp .seq false (.v 5) (.c .non) false<|.fn 18 [.v 1,.v 2,.v 3,.ix (.ix (.v 1)<|cX "kinds")<|.v 0]]]]⟩
noncomputable abbrev pR:Nat:=22
def ia:Fn:=⟨4,11,[.set 4<|.ix (.ix (.v 0)<|cX "pools")<|.v 2,.unp [5,6]<|.v 3,.ite (.cmp .Eq (.v 5)<|cX "back") [.ret<|.new "Back" 36 [.fn 18 [.v 0,.v 1,.v 4,.tup [cX "num"]]]] [],.ite (.cmp .Eq (.v 5)<|cX "raise") [.ret<|.new "Raise" 38 [.ix (.lst [cX "zero",cX "odd"])<|.bin .mod (.fn 14 [.v 1])<|cI 2]] [],.set 7<|.fn 21 [.v 0,.v 1,.v 4,.ix (.v 6)<|cI 0,.cmp .In (.v 5)<|.lst [cX "risk",cX "call"]],.set 8<|.comp .seq false (.sl (.v 6) (cI 1) (cI 1) true false) (.c .non) false<|.fn 21 [.v 1,.v 2,.v 5,.v 0,.c<|.bl false],.ite (.cmp .Eq (.v 5)<|cX "jump") [.ret<|.new "Jump" 30 [.v 7]] [],.ite (.cmp .Eq (.v 5)<|cX "branch") [.ret<|.new "Branch" 33 [.fn 18 [.v 0,.v 1,.v 4,.tup [cX "truth"]],.v 7,.ix (.v 8)<|cI 0]] [],.set 9<|.comp .rng false (.bin .add (cI 1)<|.bt .int [.cmp .Eq (.v 5)<|cX "risk"]) (.c .non) false<|.fn 18 [.v 1,.v 2,.v 5,.tup [cX "num"]],.set 10<|.comp .seq false (.v 8) (.c .non) false<|.tup [.ix (.lst [cX "zero",cX "great",cX "odd"])<|.bin .mod (.fn 14 [.v 2])<|cI 3,.v 0],.ite (.cmp .Eq (.v 5)<|cX "call") [.ret<|.new "Risk" 40 [cX "call",cX "f",.v 9,.v 7,.v 10]] [],.ret<|.new "Risk" 40 [.ix (.lst [cX "mul",cX "div",cX "mod",cX "div"])<|.bin .mod (.fn 14 [.v 1])<|cI 4,.c .non,.v 9,.v 7,.v 10]]⟩
noncomputable abbrev jv:Nat:=23
def cq:Fn:=⟨3,10,.set 3 (.fn 15 [.v 0,.v 2]):: .set 4 (.dict [.inr "last",.inr "kinds",.inr "over",.inr "given",.inr "pools",.inr "params"] [.bin .mod (.fn 14 [.v 0])<|cI 9,.emp,.fn 16 [.v 3],.emp,.lst [],.lst []])::vV:: .set 7 (.comp .rng false (.bt .len [.v 3]) (.c .non) false<|.fn 20 [.v 5,.v 1,.v 0,.v 4])::vZ⟩
noncomputable abbrev oz:Nat:=24
def gh:Fn:=⟨1,2,[.set 1<|.fn 23 [.v 0,.tup [.tup [cX "num"]],cI 0],.ret<|.new "Code" 45 [.dict [.inr "main",.inr "f"] [.fn 23 [.v 0,.tup [.tup [cX "num"],.tup [cX "truth"]],cI 1],.v 1]]]⟩
noncomputable abbrev eS:Nat:=25
def eT:Fn:=⟨1,1,[.ite (.cmp .Eq (.ix (.v 0)<|cI 0)<|cX "risk") [.ret<|.bin .add (cI 2)<|.bt .len [.ix (.v 0)<|cI 5]] [],.ret<|.dget (.dict [.inr "jump",.inr "branch"] [cI 1,cI 2]) (.ix (.v 0)<|cI 0)<|cI 0]⟩
noncomputable abbrev pS:Nat:=26
def ib:Fn:=⟨1,10,[.unp [1,2,3,4]<|.tup [cI 0,cI 0,cI 0,cI 0],.forW 5 (.fld (.v 0) "functions" [] ["Code"]) [.set 6<|.fn 16 [vW],vY],.ret<|.tup [.v 1,.v 2,.v 3,.v 4]]⟩
noncomputable abbrev Dc:Nat:=27
def v7:Fn:=⟨1,7,[.set 1<|.fn 13 [.v 0,cI 400],.set 2<|.tup [.tup [cX "num"],.tup [cX "truth"]],.set 3<|.new "Code" 45 [.dict [.inr "main"] [.fn 23 [.v 1,.v 2,cI 0]]],.set 4<|.meth (.fn 24 [.v 1]) "with_function" [("Code",48)] [cX "g",.fn 23 [.v 1,.v 2,cI 1]],.for_ 5 false (.lst [.fn 24 [.v 1],.v 3,.v 4,.meth (.v 4) "with_function" [("Code",48)] [cX "a",.ix (.fld (.v 4) "functions" [] ["Code"])<|cX "f"]]) [.set 6<|.fn 8 [.v 5],.ite (.or (.not<|.isi (.v 6) .tuple)<|.or (.cmp .NotEq (.v 6)<|.fn 26 [.v 5])<|.cmp .NotEq (.fn 8 [.v 5])<|.v 6) [.ret<|.c<|.bl false] [],.ite (.cmp .NotEq (.comp .seq false (.v 6) (.or (.not<|.isi (.v 0) .int)<|.isi (.v 0) .bool) true<|.v 0)<|.lst []) [.ret<|.c<|.bl false] []],.ret<|.c<|.bl true]⟩
noncomputable abbrev pT:Nat:=28
noncomputable def ie:Fn:=⟨5,5,[.setf (.v 0) "name" (.v 1) [] ["Row"],.setf (.v 0) "op" (.v 2) [] ["Row","Risk"],.setf (.v 0) "extra" (.v 3) [] ["Row","Risk"],.setf (.v 0) "operands" (.bt .tuple [.v 4]) [] ["Row"]]⟩
noncomputable def gq:Fn:=⟨1,1,[.ret<|.lst []]⟩
noncomputable abbrev oE:Nat:=30
noncomputable def gp:Fn:=⟨2,2,[.setf (.v 0) "edge" (.v 1) [] ["Jump","Risk"]]⟩
def gn:Fn:=⟨1,1,[.ret<|.tup [cX "jump",.fld (.v 0) "edge" [] ["Jump","Risk"]]]⟩
noncomputable def fF:Fn:=⟨1,1,[.ret<|.lst [.tup [.fld (.v 0) "edge" [] ["Jump","Risk"],.c<|.bl false]]]⟩
noncomputable abbrev k6:Nat:=33
noncomputable def eW:Fn:=⟨4,4,[.setf (.v 0) "test" (.v 1) [] ["Branch"],.setf (.v 0) "yes" (.v 2) [] ["Branch"],.setf (.v 0) "no" (.v 3) [] ["Branch"]]⟩
def eV:Fn:=⟨1,1,[.ret<|.tup [cX "branch",.fld (.v 0) "test" [] ["Branch"],.fld (.v 0) "yes" [] ["Branch"],.fld (.v 0) "no" [] ["Branch"]]]⟩
noncomputable def eh:Fn:=⟨1,1,[.ret<|.lst [.tup [.fld (.v 0) "yes" [] ["Branch"],.c<|.bl false],.tup [.fld (.v 0) "no" [] ["Branch"],.c<|.bl false]]]⟩
noncomputable abbrev oG:Nat:=36
noncomputable def gy:Fn:=⟨2,2,[.setf (.v 0) "operand" (.v 1) [] ["Back"]]⟩
def gw:Fn:=⟨1,1,[.ret<|.tup [cX "back",.fld (.v 0) "operand" [] ["Back"]]]⟩
noncomputable abbrev mM:Nat:=38
noncomputable def fE:Fn:=⟨2,2,[.setf (.v 0) "fault" (.v 1) [] ["Raise"]]⟩
def fD:Fn:=⟨1,1,[.ret<|.tup [cX "raise",.fld (.v 0) "fault" [] ["Raise"]]]⟩
noncomputable abbrev oC:Nat:=40
noncomputable def gm:Fn:=⟨6,6,[.setf (.v 0) "op" (.v 1) [] ["Row","Risk"],.setf (.v 0) "extra" (.v 2) [] ["Row","Risk"],.setf (.v 0) "asked" (.bt .tuple [.v 3]) [] ["Risk"],.setf (.v 0) "edge" (.v 4) [] ["Jump","Risk"],.setf (.v 0) "catches" (.bt .tuple [.v 5]) [] ["Risk"]]⟩
def gj:Fn:=⟨1,1,[.ret<|.tup [cX "risk",.fld (.v 0) "op" [] ["Row","Risk"],.fld (.v 0) "extra" [] ["Row","Risk"],.fld (.v 0) "asked" [] ["Risk"],.fld (.v 0) "edge" [] ["Jump","Risk"],.fld (.v 0) "catches" [] ["Risk"]]]⟩
noncomputable def fC:Fn:=⟨1,1,[.ret<|.bin .add (.lst [.tup [.fld (.v 0) "edge" [] ["Jump","Risk"],.c<|.bl true]])<|.comp .seq true (.fld (.v 0) "catches" [] ["Risk"]) (.c .non) false<|.tup [.v 1,.c<|.bl false]]⟩
noncomputable abbrev mN:Nat:=43
noncomputable def fH:Fn:=⟨4,4,[.setf (.v 0) "params" (.bt .tuple [.v 1]) [] ["Block"],.setf (.v 0) "rows" (.bt .tuple [.v 2]) [] ["Block"],.setf (.v 0) "end" (.v 3) [] ["Block"]]⟩
noncomputable abbrev jw:Nat:=44
noncomputable def dH:Fn:=⟨5,5,[.setf (.v 0) "takes" (.bt .tuple [.v 1]) [] ["Function"],.setf (.v 0) "gives" (.v 2) [] ["Function"],.setf (.v 0) "kinds" (.bt .dict [.v 3]) [] ["Function"],.setf (.v 0) "kept_kinds" (.bt .dict [.v 3]) [] ["Function"],.setf (.v 0) "blocks" (.bt .tuple [.v 4]) [] ["Function"]]⟩
noncomputable abbrev oF:Nat:=45
noncomputable def gu:Fn:=⟨2,2,[.setf (.v 0) "functions" (.bt .dict [.v 1]) [] ["Code"],.setf (.v 0) "kept_functions" (.bt .dict [.v 1]) [] ["Code"]]⟩
noncomputable def fG:Fn:=⟨1,1,[.ret<|.bt .sorted [.fld (.v 0) "kept_functions" [] ["Code"]]]⟩
noncomputable def cu:Fn:=⟨2,2,[.ret<|.ix (.fld (.v 0) "kept_functions" [] ["Code"])<|.v 1]⟩
noncomputable abbrev f9:Nat:=48
noncomputable def cA:Fn:=⟨3,4,[.set 3<|.bt .dict [.fld (.v 0) "kept_functions" [] ["Code"]],.setix (.v 3) (.v 1)<|.v 2,.ret<|.new "Code" 45 [.v 3]]⟩
def tab:List Fn:=[jb,d7,kE,dq,d8,gb,i_,dZ,ja,fw,kC,d0,fA,d_,gd,fy,ge,fB,d9,h_,gi,gf,ia,cq,gh,eT,ib,v7,ie,gq,gp,gn,fF,eW,eV,eh,gy,gw,fE,fD,gm,gj,fC,fH,dH,gu,fG,cu,cA]
local macro_rules| `(tactic|walk_at "call0")=> `(tactic|(refine zP rfl rfl ?_;dsimp only[jb,d7,kE,dq,d8,gb,i_,dZ,ja,fw,kC,d0,fA,d_,gd,fy,ge,fB,d9,h_,gi,gf,ia,cq,gh,eT,ib,v7,ie,gq,gp,gn,fF,eW,eV,eh,gy,gw,fE,fD,gm,gj,fC,fH,dH,gu,fG,cu,cA,map_cons,map_nil,cons_append,nil_append,length_cons,length_nil,replicate,Nat.reduceAdd,Nat.reduceSub]))
noncomputable def ly(op ex x e c:D):List (Str×D):=[("op",op),("extra",ex),("asked",x),("edge",e),("catches",c)]
theorem my:∀{fs:List (Str×D)}{m:Str},(fs.map (·.1)).contains m=false->fs.lookup m=none
 |[],_,_=>rfl
 |(a,w)::r,m,h=>by simp only[map_cons,contains_cons,Bool.or_eq_false_iff] at h;simp only[lookup_cons,h.1];exact my h.2
theorem lk:∀{fs:List (Str×D)}{f:Str}{d:D}(i:Nat),fs[i]? =some (f,d)->((fs.take i).map (·.1)).contains f=false->fs.lookup f=some d
 |(a,w)::r,f,d,0,h,_=>by simp at h;obtain⟨rfl,rfl⟩:=h;simp[lookup_cons]
 |(a,w)::r,f,d,i+1,h,k=>by
  simp only[take_succ_cons,map_cons,contains_cons,Bool.or_eq_false_iff] at k;simp only[lookup_cons,k.1];exact lk i (by simpa using h) k.2
theorem ny{c:Str}{fs:List (Str×D)}{ics:List Str}(z:st1[p]? =some (.ins c fs))(i:Nat)(hi:fs[i]? =some (f,d))(q:P d)(B:c∈ics:=by decide+kernel)(hk:((fs.take i).map (·.1)).contains f=false:=by(simp only[ly,nil_append,cons_append,take_succ_cons,take_zero,map_cons,map_nil];decide+kernel)):∃n c fs d,D.ref p=.ref n/\st1[n]? =some (.ins c fs)/\fs.lookup f=some d/\c∈ics/\P d:=⟨p,c,fs,d,rfl,z,lk i hi hk,B,q⟩
theorem wQ{c m:Str}{fs:List (Str×D)}{ms:List (Str×Nat)}{P:Nat->Nat->Prop}(z:st1[p]? =some (.ins c fs))(F:ms.lookup c=some j)(q:P p j)(B:(fs.map (·.1)).contains m=false:=by(simp only[ly,nil_append,cons_append,map_cons,map_nil];decide+kernel)):∃n c fs j,D.ref p=.ref n/\st1[n]? =some (.ins c fs)/\fs.lookup m=none/\ms.lookup c=some j/\P n j:=⟨p,c,fs,j,rfl,z,my B,F,q⟩
theorem qE:∀{fs:List (Str×D)}{f:Str}{v:D},(fs.map (·.1)).contains f=false->putD f v fs=fs++[(f,v)]
 |[],_,_,_=>rfl
 |(a,w)::r,f,v,h=>by
  simp only[map_cons,contains_cons,Bool.or_eq_false_iff] at h;have c:a≠f:=λz=>by simp[z] at h
  simp[putD,c,qE h.2]
theorem dF{e:Ex}{cs ics:List Str}(h0:loc[0]? =some (rf p))
  (h:W (run g e loc st) λd st1=>∃c fs,(st1[p]? =some (.ins c fs)/\fs.length<900/\c∈ics/\(fs.map (·.1)).contains f=false)/\W (execs g ss loc<|st1.set p<|.ins c<|fs++[(f,d)]) Q):W (execs g (.setf (.v 0) f e cs ics::ss) loc st) Q:=
 zA (h.mono λd st1 ⟨c,fs,⟨hp,hl,hc,hk⟩,q⟩=>aH h0<|wW hp ⟨hl,hc⟩ (by rw[qE hk];exact q))
theorem jx{c:Str}{fs:List (Str×D)}{ics:List Str}{P:Str->List (Str×D)->Prop}(z:st1[p]? =some (.ins c fs))(q:P c fs)(B:fs.length<900:=by simp)(hc:c∈ics:=by decide+kernel)(hk:(fs.map (·.1)).contains f=false:=by(simp only[ly,nil_append,cons_append,map_cons,map_nil];decide+kernel)):∃c fs,(st1[p]? =some (.ins c fs)/\fs.length<900/\c∈ics/\(fs.map (·.1)).contains f=false)/\P c fs:=⟨c,fs,⟨z,B,hc,hk⟩,q⟩
theorem sn{x:O}(h:st[i]? =some o)(c:j≠i):(st.set j x)[i]? =some o:=by rw[aD c];exact h
theorem eq_str{a b:Str}:kY st (.str a) (.str b)=some (a==b):=by simp[kY,nz]
theorem all2{a b:D}(h1:P a)(h2:P b):∀x∈[a,b],P x:=by
 intro x c;rcases mem_cons.mp c with rfl|c
 .exact h1
 .rcases mem_cons.mp c with rfl|c
  .exact h2
  .cases c
theorem yQ{a:D}{l:List D}(h1:P a)(h2:∀x∈l,P x):∀x∈a::l,P x:=by
 intro x c;rcases mem_cons.mp c with rfl|c
 .exact h1
 .exact h2 x c
theorem Fj:∀x∈([]:List D),P x:=λ_ h=>nomatch h
noncomputable def nc(p r e:D):List (Str×D):=[("params",p),("rows",r),("end",e)]
noncomputable def BQ(t g a b l:D):List (Str×D):=[("takes",t),("gives",g),("kinds",a),("kept_kinds",b),("blocks",l)]
noncomputable abbrev kN:D:= .tup [.str "num"]
noncomputable abbrev kT:D:= .tup [.str "truth"]
noncomputable abbrev ed(a:Nat)(x:D):D:= .tup [.int (a:Int),x]
inductive En where
 |bk (o:D)|rs (f:D)|jp (a:Nat)(x:D)|br (t:D)(a:Nat)(x:D)(b:Nat)(y:D)|rk (op:Str)(ex z:D)(a:Nat)(x:D)(cs:List (D×Nat×D))
noncomputable def En.fol:En->List Nat
 | .bk _=>[]
 | .rs _=>[]
 | .jp a _=>[a]
 | .br _ a _ b _=>[a,b]
 | .rk _ _ _ a _ cs=>a::cs.map λc=>c.2.1
abbrev cD(c:D×Nat×D):D:= .tup [c.1,ed c.2.1 c.2.2]
def En.tl:En->D
 | .bk o=>.tup [.str "back",o]
 | .rs f=>.tup [.str "raise",f]
 | .jp a x=>.tup [.str "jump",ed a x]
 | .br t a x b y=>.tup [.str "branch",t,ed a x,ed b y]
 | .rk op ex z a x cs=>.tup [.str "risk",.str op,ex,z,ed a x,.tup<|cs.map cD]
noncomputable def En.cls:En->Str
 | .bk _=> "Back"
 | .rs _=> "Raise"
 | .jp _ _=> "Jump"
 | .br _ _ _ _ _=> "Branch"
 | .rk _ _ _ _ _ _=> "Risk"
def En.fs:En->List (Str×D)
 | .bk o=>[("operand",o)]
 | .rs f=>[("fault",f)]
 | .jp a x=>[("edge",ed a x)]
 | .br t a x b y=>[("test",t),("yes",ed a x),("no",ed b y)]
 | .rk op ex z a x cs=>ly (.str op) ex z (ed a x)<|.tup<|cs.map cD
def gD(st:aU)(n:Nat)(e:En):Prop:=st[n]? =some (.ins e.cls e.fs)/\e.fol.length<=2
def Ki(st st':aU):Prop:=∀(m:Nat)(c:Str)(fs:List (Str×D)),st[m]? =some (.ins c fs)->st'[m]? =some (.ins c fs)
theorem yz(h:Gr st st'):Ki st st':=λ_ _ _ e=>h.at e
theorem Ki.trans{a b:aU}(h:Ki a b)(k:Ki b c):Ki a c:=λm x fs e=>k m x fs<|h m x fs e
theorem gD.ki{e:En}(h:gD st n e)(k:Ki st st'):gD st' n e:=⟨k _ _ _ h.1,h.2⟩
theorem cH(h:st[n]? =ls xs):bO st (.ref n)=some xs:=by simp only[bO,h]
theorem gW{Q:D->aU->Prop}(hs:bO st x=some xs)(h:Q (.tup xs) st):W (dD .tuple [x] st) Q:=by simp only[dD,oU,hs];exact h
theorem gY(g:Gr st st')(h:bO st x=some xs):bO st' x=some xs:=by
 cases x with
 |ref n=>
  simp only[bO] at h ⊢;cases q:st[n]? with
  |none=>rw[q] at h;cases h
  |some o=>rw[q] at h;rw[g.at q];exact h
 |_=>exact h
section
variable{k:Nat}{st:aU}{Q:D->aU->Prop}
theorem A8(h:Q .non (st++[.ins "Jump" [("edge",e)]])):Wv (calls tab (k+1) oE [.ref st.length,e]<|st++[.ins "Jump" []]) Q:=by
 obtain⟨s0,c⟩:∃s0,s0=st++[O.ins "Jump" []]:=⟨_,rfl⟩;rw[<-c]
 walk_at "call0"
 rw[c];refine dF rfl<|aH rfl<|jx aG ?_;rw[bJ];exact aO<|iD h
theorem A_(h:Q .non (st++[.ins "Back" [("operand",e)]])):Wv (calls tab (k+1) oG [.ref st.length,e]<|st++[.ins "Back" []]) Q:=by
 obtain⟨s0,c⟩:∃s0,s0=st++[O.ins "Back" []]:=⟨_,rfl⟩;rw[<-c]
 walk_at "call0"
 rw[c];refine dF rfl<|aH rfl<|jx aG ?_;rw[bJ];exact aO<|iD h
theorem yq(h:Q .non (st++[.ins "Raise" [("fault",e)]])):Wv (calls tab (k+1) mM [.ref st.length,e]<|st++[.ins "Raise" []]) Q:=by
 obtain⟨s0,c⟩:∃s0,s0=st++[O.ins "Raise" []]:=⟨_,rfl⟩;rw[<-c]
 walk_at "call0"
 rw[c];refine dF rfl<|aH rfl<|jx aG ?_;rw[bJ];exact aO<|iD h
theorem oB{a b c:D}(B:bO st x=some xs)(h:Q .non (st++[.ins "Row" [("name",a),("op",b),("extra",c),("operands",.tup xs)]])):Wv (calls tab (k+1) pT [.ref st.length,a,b,c,x]<|st++[.ins "Row" []]) Q:=by
 obtain⟨s0,z⟩:∃s0,s0=st++[O.ins "Row" []]:=⟨_,rfl⟩;rw[<-z]
 walk_at "call0"
 rw[z];refine dF rfl<|aH rfl<|jx aG ?_;rw[bJ];refine dF rfl<|aH rfl<|jx aG ?_;rw[bJ];refine dF rfl<|aH rfl<|jx aG ?_;rw[bJ];refine dF rfl<|bL<|ac<|aH rfl<|am<|gW (gY (.one _ _) B)<|jx aG ?_;rw[bJ];exact aO<|iD h
theorem pU{d:Nat}(hd:st[d]? =dt kvs)(h:∀a b st1,st1[st.length]? =some (.ins "Code" [("functions",.ref a),("kept_functions",.ref b)])->st1[a]? =dt kvs->st1[b]? =dt kvs->Gr st st1->Q .non st1):Wv (calls tab (k+1) oF [.ref st.length,.ref d]<|st++[.ins "Code" []]) Q:=by
 obtain⟨s0,c⟩:∃s0,s0=st++[O.ins "Code" []]:=⟨_,rfl⟩;rw[<-c]
 walk_at "call0"
 rw[c];have B:∀a:O,(st++[a]).length=st.length+1:=λa=>by simp
 have z:∀a b:O,(st++[a,b]).length=st.length+2:=λa b=>by simp
 refine dF rfl<|bL<|ac<|aH rfl<|am<|im (aZ hd)<|jx (aZ aG) ?_;rw[B,append_assoc,show ∀a b:O,[a]++[b]=[a,b] from λ_ _=>rfl,fT];refine dF rfl<|bL<|ac<|aH rfl<|am<|im (aZ hd)<|jx (aZ t9) ?_;rw[z,bM _ _ (by simp),fT]
 refine aO<|iD<|h (st.length+1) (st.length+2) _ (aZ t9) (aZ BY) ?_ ⟨_,by rw[append_assoc]⟩
 rw[append_assoc,az<|Nat.le_add_right _ _,Nat.add_sub_cancel_left];rfl
theorem vK{y m:D}(h:Q .non (st++[.ins "Branch" [("test",t),("yes",y),("no",m)]])):Wv (calls tab (k+1) k6 [.ref st.length,t,y,m]<|st++[.ins "Branch" []]) Q:=by
 obtain⟨s0,c⟩:∃s0,s0=st++[O.ins "Branch" []]:=⟨_,rfl⟩;rw[<-c]
 walk_at "call0"
 rw[c];refine dF rfl<|aH rfl<|jx aG ?_;rw[bJ];refine dF rfl<|aH rfl<|jx aG ?_;rw[bJ];refine dF rfl<|aH rfl<|jx aG ?_;rw[bJ];exact aO<|iD h
theorem vJ{op ex y:D}{cs:List D}(B:bO st x=some xs)(z:bO st y=some cs)(h:Q .non (st++[.ins "Risk"<|ly op ex (.tup xs) e<|.tup cs])):Wv (calls tab (k+1) oC [.ref st.length,op,ex,x,e,y]<|st++[.ins "Risk" []]) Q:=by
 obtain⟨s0,c⟩:∃s0,s0=st++[O.ins "Risk" []]:=⟨_,rfl⟩;rw[<-c]
 walk_at "call0"
 rw[c];refine dF rfl<|aH rfl<|jx aG ?_;rw[bJ];refine dF rfl<|aH rfl<|jx aG ?_;rw[bJ];refine dF rfl<|bL<|ac<|aH rfl<|am<|gW (gY (.one _ _) B)<|jx aG ?_;rw[bJ];refine dF rfl<|aH rfl<|jx aG ?_;rw[bJ];refine dF rfl<|bL<|ac<|aH rfl<|am<|gW (gY (.one _ _) z)<|jx aG ?_;rw[bJ];exact aO<|iD h
theorem yt{p q:D}{ps rs:List D}(B:bO st p=some ps)(z:bO st q=some rs)(h:Q .non (st++[.ins "Block"<|nc (.tup ps) (.tup rs) x])):Wv (calls tab (k+1) mN [.ref st.length,p,q,x]<|st++[.ins "Block" []]) Q:=by
 obtain⟨s0,c⟩:∃s0,s0=st++[O.ins "Block" []]:=⟨_,rfl⟩;rw[<-c]
 walk_at "call0"
 rw[c];refine dF rfl<|bL<|ac<|aH rfl<|am<|gW (gY (.one _ _) B)<|jx aG ?_;rw[bJ];refine dF rfl<|bL<|ac<|aH rfl<|am<|gW (gY (.one _ _) z)<|jx aG ?_;rw[bJ];refine dF rfl<|aH rfl<|jx aG ?_;rw[bJ];exact aO<|iD h
theorem A9{g l:D}{ts bs:List D}{d:Nat}(ht:bO st t=some ts)(hd:st[d]? =dt kvs)(z:bO st l=some bs)(h:∀a b st1,st1[st.length]? =some (.ins "Function"<|BQ (.tup ts) g (.ref a) (.ref b)<|.tup bs)->st1[a]? =dt kvs->st1[b]? =dt kvs->Gr st st1->Q .non st1):Wv (calls tab (k+1) jw [.ref st.length,t,g,.ref d,l]<|st++[.ins "Function" []]) Q:=by
 obtain⟨s0,c⟩:∃s0,s0=st++[O.ins "Function" []]:=⟨_,rfl⟩;rw[<-c]
 walk_at "call0"
 rw[c];have F:∀a:O,(st++[a]).length=st.length+1:=λa=>by simp
 have B:∀a b:O,(st++[a,b]).length=st.length+2:=λa b=>by simp
 refine dF rfl<|bL<|ac<|aH rfl<|am<|gW (gY (.one _ _) ht)<|jx aG ?_;rw[bJ];refine dF rfl<|aH rfl<|jx aG ?_;rw[bJ];refine dF rfl<|bL<|ac<|aH rfl<|am<|im (aZ hd)<|jx (aZ aG) ?_;rw[F,append_assoc,show ∀a b:O,[a]++[b]=[a,b] from λ_ _=>rfl,fT];refine dF rfl<|bL<|ac<|aH rfl<|am<|im (aZ hd)<|jx (aZ t9) ?_;rw[B,bM _ _ (by simp),fT]
 refine dF rfl<|bL<|ac<|aH rfl<|am<|gW (gY ⟨_,by rw[append_assoc]⟩ z)<|jx (aZ t9) ?_
 rw[bM _ _ (by simp),fT]
 refine aO<|iD<|h (st.length+1) (st.length+2) _ (aZ t9) (aZ BY) ?_ ⟨_,by rw[append_assoc]⟩
 rw[append_assoc,az<|Nat.le_add_right _ _,Nat.add_sub_cancel_left];rfl
end
def Lf(st:aU)(l:Nat):Prop:=∃ns:List Int,st[l]? =ls (ns.map .int)
structure Bu(l:Nat)(st st':aU):Prop where
 le:st.length<=st'.length
 same:∀i,i<st.length->i≠l->st'[i]? =st[i]?
theorem Bu.at{a b:aU}(h:Bu l a b)(e:a[i]? =some o)(c:i≠l):b[i]? =some o:=by rw[h.same i (aq e).1 c];exact e
theorem Bu.trans{a b:aU}(h:Bu l a b)(k:Bu l b c):Bu l a c:=
 ⟨aM h.le k.le,λi hi z=>(k.same i (ao hi h.le) z).trans<|h.same i hi z⟩
theorem Bu.gr{a b:aU}(g:Gr a b):Bu l a b:=⟨g.le,λi hi _=>by obtain⟨t,rfl⟩:=g;rw[aB hi]⟩
theorem Bu.set{a b:aU}(h:Bu l a b)(z:n=l∨a.length<=n):Bu l a (b.set n o):=
 ⟨by rw[aA];exact h.le,λi hi c=>by rw[aD (by omega)];exact h.same i hi c⟩
theorem Bu.ki{a b:aU}(h:Bu l a b)(B:Lf a l):Ki a b:=λm c fs e=>h.at e λz=>by obtain⟨ns,q⟩:=B;rw[z,q] at e;cases e
theorem jc(c:st[n]? =ls xs)(z:st[m]? =ls []):kY st (.ref n) (.ref m)=some (xs.isEmpty):=by
 by_cases h:n=m
 .subst h;rw[c] at z;cases z;simp[kY,c,gC]
 .cases xs with
  |_=>simp[kY,c,z,gC]
section
variable{k l:Nat}{st:aU}{Q:D->aU->Prop}
theorem iW(B:Lf st l)(h:∀w st1,Bu l st st1->Lf st1 l->Q (.int w) st1):Wv (calls tab (k+1) jo [.ref l] st) Q:=by
 obtain⟨ns,e⟩:=B;have c:l<st.length:=(aq e).1
 walk_at "call0"
 refine cr<|bi<|aH rfl<|bw<|am<|w_eq (jc (aZ e) aG) ⟨_,rfl,λz=>?_,λz=>?_⟩
 .exact ba<|aV<|ff<|bc<|h _ _ (.gr<|.one _ _) ⟨ns,aZ e⟩
 .cases ns with
  |nil=>cases z
  |cons a ns=>
   refine aO<|a6<|ba<|zD<|aH rfl ⟨l,_,_,rfl,aZ e,bc<|h _ _ ((Bu.gr<|.one _ _).set<|.inl rfl) ⟨ns,bB (by simp;omega)⟩⟩
end
structure Bl where
 np:Nat
 nr:Nat
 e:En
def kX(st:aU)(b:Nat)(B:Bl):Prop:=∃(ps rs:List D)(n:Nat),ps.length=B.np/\rs.length=B.nr/\st[b]? =some (.ins "Block"<|nc (.tup ps) (.tup rs)<|.ref n)/\gD st n B.e
theorem kX.ki{e:Bl}(h:kX st b e)(k:Ki st st'):kX st' b e:=by obtain⟨ps,rs,n,h1,h2,z,c⟩:=h;exact⟨ps,rs,n,h1,h2,k _ _ _ z,c.ki k⟩
def gE(st:aU)(bs:List Nat)(G:List Bl):Prop:=bs.length=G.length/\∀(j b:Nat)(e:Bl),bs[j]? =some b->G[j]? =some e->kX st b e
theorem gE.ki{bs:List Nat}{L:List Bl}(h:gE st bs L)(k:Ki st st'):gE st' bs L:=⟨h.1,λj b p a c=>(h.2 j b p a c).ki k⟩
theorem um{P:Nat->α->β->Prop}{as:List α}{bs:List β}{a:α}{b:β}(z:as.length=bs.length)(h:∀(j:Nat) x y,as[j]? =some x->bs[j]? =some y->P j x y)(B:P as.length a b):∀(j:Nat) x y,(as++[a])[j]? =some x->(bs++[b])[j]? =some y->P j x y:=λj x y h1 h2=>by
 by_cases hj:j<as.length
 .rw[aB hj] at h1;rw[aB (by omega)] at h2
  exact h j x y h1 h2
 .have c:j=as.length:=by have:=(aq h1).1;simp at this;omega
  subst c;rw[az<|aa _,sub_self] at h1;rw[z,az<|aa _,sub_self] at h2;cases h1;cases h2;exact B
theorem gE.snoc{bs:List Nat}{L:List Bl}{e:Bl}(h:gE st bs L)(c:kX st b e):gE st (bs++[b]) (L++[e]):=
 ⟨by simp[h.1],um (P:=λ_ b e=>kX st b e) h.1 h.2 c⟩
def dj(st:aU)(f:Nat)(G:List Bl):Prop:=∃(t g x y:D)(bs:List Nat),st[f]? =some (.ins "Function"<|BQ t g x y<|.tup<|bs.map .ref)/\gE st bs G
theorem dj.ki{f:Nat}{L:List Bl}(h:dj st f L)(k:Ki st st'):dj st' f L:=by obtain⟨t,g,x,y,bs,h1,c⟩:=h;exact⟨t,g,x,y,bs,k _ _ _ h1,c.ki k⟩
theorem dj.gr{f:Nat}{L:List Bl}(h:dj st f L)(k:Gr st st'):dj st' f L:=h.ki<|yz k
theorem fk(h:(bx n)[i]? =some x):i<n/\x=.int (i:Int):=by
 have hi:i<n:=by have:=(aq h).1;rwa [bp] at this
 refine⟨hi,?_⟩;have:(bx n)[i]? =nt (i:Int):=by simp[bx,hi]
 rw[this] at h;exact(ak h).symm
def Mk(st st':aU)(m:Nat):Prop:=∃zs:List Int,st'=st++[.lst<|zs.map .int]/\zs.length<=m
section
variable{k:Nat}{st:aU}{Q:D->aU->Prop}
theorem qA{c m:Int}(h:∀r,Q (.int r) st):Wv (calls tab (k+1) mK [.int c,.int m] st) Q:=by
 walk_at "call0"
 refine aW<|aY<|aY<|aY<|aY<|aY<|aH rfl<|aV<|w_mod (by decide)<|aV<|w_mul (.inr (by decide))<|aY<|aH rfl<|aV<|w_mul (.inr (by decide))<|w_add<|aV<|w_add<|aV<|w_mod (by decide) ?_
 refine aW<|aY<|aY<|aY<|aY<|aY<|aY<|aH rfl<|aH rfl<|w_mul ?_<|aV<|w_mod (by decide)<|aV<|w_mul (.inr (by decide))<|aY<|aH rfl<|aV<|w_mul (.inr (by decide))<|w_add<|aV<|w_add<|aV<|w_mod (by decide) ?_
 .omega
 exact ba<|aY<|aY<|aH rfl<|aH rfl<|w_mul (by omega)<|aV<|w_mod (by decide)<|bc<|h _
theorem o7{e:Ex}{zs:List Int}{Q:Fl->aU->Prop}(z:loc[2]? =some (rf st.length))(B:zs.length<10000)(c:∀P:D->aU->Prop,(∀r,P (.int r)<|st++[.lst<|zs.map .int])->W (run g e loc<|st++[.lst<|zs.map .int]) P)(h:∀r:Int,W (execs g ss loc<|st++[.lst<|(zs++[r]).map .int]) Q):W (execs g (.app (.v 2) e::ss) loc<|st++[.lst<|zs.map .int]) Q:=
 dJ (aH z<|ce aG<|c _ λr=>bU aG (by rw[length_map];omega) (by rw[bJ];have:=h r;rw[map_append] at this;exact this))
theorem si{cs:List Int}(hc:cs.length<=63)(h:∀m st',Lf st' m->Gr st st'->st.length<=m->Q (.ref m) st'):Wv (calls tab (k+2) kx [.fl<|cs.map .int,.int 400] st) Q:=by
 walk_at "call0"
 refine aW<|bw<|am<|dk<|aH rfl ⟨_,rfl,?_⟩;refine cj (L:=cs.map .int) (aa _) (λi loc st'=>(∃a b c,loc=[some<|.fl<|cs.map .int,nt 400,rf st.length,a,b,c])/\Mk st st' (40*i)) ⟨⟨_,_,_,rfl⟩,[],rfl,by simp⟩ (λ_ _ _ _=>rfl) (λi z loc st' B U=>?_) λloc st' U=>?_
 .obtain⟨⟨a,b,c,rfl⟩,hM⟩:=U
  have hi:i<cs.length:=by have:=(aq B).1;rwa [length_map] at this
  obtain⟨v,_,rfl⟩:=mem_map.mp<|ag B;refine aW<|aH rfl<|dk<|aV ⟨_,bS (by decide),?_⟩
  refine cj (L:=bx 40) (aa _) (λj loc st'=>(∃(b:Int)(c:Option D),loc=[some<|.fl<|cs.map .int,nt 400,rf st.length,nt v,nt b,c])/\Mk st st' (40*i+j)) ⟨⟨_,_,rfl⟩,hM⟩ (λ_ _ _ _=>rfl) (λj y loc F Z Y=>?_) λloc F Y=>?_
  .obtain⟨⟨b2,c2,rfl⟩,zs,rfl,H⟩:=Y
   have hj:j<40:=by have:=(aq Z).1;rwa [bp] at this
   have fin:∀r:Int,Mk st (st++[O.lst<|(zs++[r]).map D.int]) (40*i+(j+1)):=λr=>⟨_,rfl,by simp;omega⟩
   refine cr<|bi<|aH rfl<|aY<|aV<|aV<|w_pow (by decide)<|w_lt ⟨_,rfl,λ_=>?_,λ_=>?_⟩
   .refine o7 rfl (by omega) (λP I=>?_) λr=>?_
    .exact aY<|bC<|ac<|aH rfl<|ac<|bL<|ac<|aH rfl<|am<|cU aG<|am<|qA λr=>aV<|w_mod (by decide)<|I _
    exact aO<|a6<|aO<|bW ⟨⟨_,_,rfl⟩,fin r⟩
   .refine cr (bi<|aH rfl<|aV<|w5 ⟨_,rfl,λ_=>?_,λ_=>?_⟩)
    .refine o7 rfl (by omega) (λP I=>?_) λr=>?_
     .exact aY<|aH rfl<|aV<|w_mod (by decide)<|I _
     exact aW<|aY<|aH rfl<|aV<|lZ (by decide)<|aO<|a6<|aO<|a6<|aO<|bW ⟨⟨_,_,rfl⟩,fin r⟩
    .exact aO<|a6<|aO<|a6<|aO<|bW ⟨⟨_,_,rfl⟩,zs,rfl,by omega⟩
  .obtain⟨⟨b2,c2,rfl⟩,J⟩:=Y;rw[bp] at J;exact a6<|aO<|bW ⟨⟨_,_,_,rfl⟩,J⟩
 .obtain⟨⟨a,b,c,rfl⟩,zs,rfl,H⟩:=U;rw[length_map] at H;refine a6 (jM (λm' loc st'=>∃zs:List Int,st'=st++[.lst<|zs.map .int]/\zs.length<=3000/\m'=400 - zs.length/\loc=[some<|.fl<|cs.map .int,nt 400,rf st.length,a,b,c]) (400 - zs.length) (by omega) ⟨zs,rfl,by omega,rfl,rfl⟩ λm' loc F U=>?_)
  obtain⟨ys,rfl,Z,rfl,rfl⟩:=U;refine bi<|bL<|ac<|aH rfl<|am<|cU aG<|aH rfl<|w_lt ⟨_,rfl,λB=>?_,λB=>?_⟩
  .have B:((ys.map D.int).length:Int)<400:=of_decide_eq_true B;rw[length_map] at B;refine⟨400 - ys.length - 1,by omega,?_⟩
   refine o7 rfl (by omega) (λP I=>?_) λr=>?_
   .exact aY<|bC<|ac<|bL<|ac<|aH rfl<|am<|cU aG<|ac<|aH rfl<|am<|qA λr=>aV<|w_mod (by decide)<|I _
   exact aO<|bW ⟨ys++[r],rfl,by simp;omega,by simp;omega,rfl⟩
  .refine ba (o5<|aH rfl<|aH rfl ⟨_,rfl,nE aG<|bc<|h _ _ ?_ ((Gr.one _ _).more _) (by simp)⟩)
   refine⟨(ys.drop<|HT.cV (ys.map D.int).length 0 none).take<|HT.cV (ys.map D.int).length (ys.map D.int).length (some 400) - HT.cV (ys.map D.int).length 0 none,?_⟩;rw[aG];unfold cutD;rw[map_take,map_drop]
end
noncomputable abbrev mT:List (Str×Nat):=[("Jump",31),("Branch",34),("Back",37),("Raise",39),("Risk",41)]
noncomputable abbrev mE:List (Str×Nat):=[("Jump",32),("Branch",35),("Back",29),("Raise",29),("Risk",42)]
theorem wS{a b c:D}(z:st1[p]? =some (.ins "Block"<|nc a b c))(i:Nat)(hi:(nc a b c)[i]? =some (f,d))(q:P d)(B:(((nc a b c).take i).map (·.1)).contains f=false:=by(simp only[nc,take_succ_cons,take_zero,map_cons,map_nil];decide+kernel)):∃n c fs d,D.ref p=.ref n/\st1[n]? =some (.ins c fs)/\fs.lookup f=some d/\c∈(["Block"]:List Str)/\P d:=⟨p,_,_,d,rfl,z,lk i hi B,.head _,q⟩
theorem zk{g a b l:D}(z:st1[p]? =some (.ins "Function"<|BQ t g a b l))(i:Nat)(hi:(BQ t g a b l)[i]? =some (f,d))(q:P d)(B:(((BQ t g a b l).take i).map (·.1)).contains f=false:=by(simp only[BQ,take_succ_cons,take_zero,map_cons,map_nil];decide+kernel)):∃n c fs d,D.ref p=.ref n/\st1[n]? =some (.ins c fs)/\fs.lookup f=some d/\c∈(["Function"]:List Str)/\P d:=⟨p,_,_,d,rfl,z,lk i hi B,.head _,q⟩
def eD:En->List D
 | .bk _=>[]
 | .rs _=>[]
 | .jp a x=>[.tup [ed a x,.bl false]]
 | .br _ a x b y=>[.tup [ed a x,.bl false],.tup [ed b y,.bl false]]
 | .rk _ _ _ a x cs=>.tup [ed a x,.bl true]::cs.map λc=>.tup [ed c.2.1 c.2.2,.bl false]
theorem wg(e:En):(eD e).length=e.fol.length:=by cases e<;>simp[eD,En.fol]
theorem zn{e:En}(h:(eD e)[j]? =some x):∃(a:Nat)(y:D)(b:Bool),x=.tup [ed a y,.bl b]/\e.fol[j]? =some a:=by
 cases e with
 |jp a y=>
  match j,h with
  |0,h=>cases h;exact⟨_,_,_,rfl,rfl⟩
  |j+1,h=>simp[eD] at h
 |br t a y b z=>
  match j,h with
  |0,h=>cases h;exact⟨_,_,_,rfl,rfl⟩
  |1,h=>cases h;exact⟨_,_,_,rfl,rfl⟩
  |j+2,h=>simp[eD] at h
 |rk op ex z a y cs=>
  match j,h with
  |0,h=>cases h;exact⟨_,_,_,rfl,rfl⟩
  |j+1,h=>
   simp only[eD,List.getElem?_cons_succ,List.getElem?_map] at h;cases q:cs[j]? with
   |none=>rw[q] at h;cases h
   |some c=>rw[q] at h;cases h;refine⟨c.2.1,c.2.2,false,rfl,?_⟩;simp only[En.fol,List.getElem?_cons_succ,List.getElem?_map,q,Option.map_some]
 |_=>simp[eD] at h
noncomputable def En.call:En->Bool
 | .rk op _ _ _ _ _=>op== "call"
 |_=>false
noncomputable def En.wt:En->Int
 | .rk _ _ _ _ _ cs=>2+(cs.length:Int)
 | .br _ _ _ _ _=>2
 | .jp _ _=>1
 |_=>0
section
variable{k n:Nat}{st:aU}{Q:D->aU->Prop}{loc:Loc}{a:Ex}
theorem C6{e:En}(h:W (run (calls tab<|k+1) a loc st) λx st1=>∃n,x=.ref n/\gD st1 n e/\Q e.tl st1):W (run (calls tab<|k+1) (.meth a "told" mT []) loc st) Q:=by
 refine iQ<|h.mono λx st1 B=>?_;obtain⟨n,rfl,⟨c,_⟩,q⟩:=B;cases e with
 |bk o=>
  dsimp only[En.cls,En.fs] at c;refine wQ c rfl<|am ?_
  walk_at "call0"
  exact ba<|bo<|ac<|aV<|ac<|bh<|aH rfl<|ny c 0 rfl<|am<|bc q
 |rs f=>
  dsimp only[En.cls,En.fs] at c;refine wQ c rfl<|am ?_
  walk_at "call0"
  exact ba<|bo<|ac<|aV<|ac<|bh<|aH rfl<|ny c 0 rfl<|am<|bc q
 |jp a x=>
  dsimp only[En.cls,En.fs] at c;refine wQ c rfl<|am ?_
  walk_at "call0"
  exact ba<|bo<|ac<|aV<|ac<|bh<|aH rfl<|ny c 0 rfl<|am<|bc q
 |br t a x b y=>
  dsimp only[En.cls,En.fs] at c;refine wQ c rfl<|am ?_
  walk_at "call0"
  refine ba<|bo<|ac<|aV<|ac<|bh<|aH rfl<|ny c 0 rfl ?_;refine ac<|bh<|aH rfl<|ny c 1 rfl ?_;refine ac<|bh<|aH rfl<|ny c 2 rfl ?_;exact am<|bc q
 |rk op ex z a x cs=>
  dsimp only[En.cls,En.fs] at c;refine wQ c rfl<|am ?_
  walk_at "call0"
  refine ba<|bo<|ac<|aV<|ac<|bh<|aH rfl<|ny c 0 rfl ?_;refine ac<|bh<|aH rfl<|ny c 1 rfl ?_;refine ac<|bh<|aH rfl<|ny c 2 rfl ?_;refine ac<|bh<|aH rfl<|ny c 3 rfl ?_;refine ac<|bh<|aH rfl<|ny c 4 rfl ?_;exact am<|bc q
theorem qW{e:En}(h:W (run (calls tab<|k+1) a loc st) λx st1=>∃n,x=.ref n/\gD st1 n e/\∀m F,Gr st1 F->F[m]? =ls (eD e)->Q (.ref m) F):W (run (calls tab<|k+1) (.meth a "edges" mE []) loc st) Q:=by
 refine iQ<|h.mono λx st1 Y=>?_;obtain⟨n,rfl,⟨B,U⟩,q⟩:=Y;cases e with
 |bk o=>
  dsimp only[En.cls,En.fs] at B;refine wQ B rfl<|am ?_
  walk_at "call0"
  exact ba<|bw<|am<|bc<|q _ _ (.one _ _) aG
 |rs f=>
  dsimp only[En.cls,En.fs] at B;refine wQ B rfl<|am ?_
  walk_at "call0"
  exact ba<|bw<|am<|bc<|q _ _ (.one _ _) aG
 |jp a x=>
  dsimp only[En.cls,En.fs] at B;refine wQ B rfl<|am ?_
  walk_at "call0"
  exact ba<|bw<|ac<|bo<|ac<|bh<|aH rfl<|ny B 0 rfl<|ac<|aV<|am<|am<|bc<|q _ _ (.one _ _) aG
 |br t a x b y=>
  dsimp only[En.cls,En.fs] at B;refine wQ B rfl<|am ?_
  walk_at "call0"
  refine ba<|bw<|ac<|bo<|ac<|bh<|aH rfl<|ny B 1 rfl<|ac<|aV<|am ?_;exact ac<|bo<|ac<|bh<|aH rfl<|ny B 2 rfl<|ac<|aV<|am<|am<|bc<|q _ _ (.one _ _) aG
 |rk op ex z a x cs=>
  dsimp only[En.cls,En.fs] at B;have Z:cs.length<=1:=by simpa[En.fol] using U
  refine wQ B rfl<|am ?_
  walk_at "call0"
  refine ba<|aY<|bw<|ac<|bo<|ac<|bh<|aH rfl<|ny B 3 rfl<|ac<|aV<|am<|am ?_;refine bN<|bh<|aH rfl<|ny (aZ B) 4 rfl ⟨_,rfl,?_⟩;refine b5 (L:=cs.map cD) (by show(cs.map cD).length<=1000000;rw[length_map];omega) (aa _) (λi acc I=>I=st1++[.lst [.tup [ed a x,.bl true]]]/\acc=(cs.map λc=>D.tup [ed c.2.1 c.2.2,.bl false]).take i) ⟨rfl,rfl⟩ (λ_ _ _ _=>rfl) (λj x acc I H J=>?_) λacc I J=>?_
  .obtain⟨rfl,rfl⟩:=J;rw[aj] at H;cases q:cs[j]? with
   |none=>rw[q] at H;cases H
   |some c=>rw[q] at H;cases H;refine il<|bo<|ac<|aH rfl<|ac<|aV<|am ⟨rfl,?_⟩;rw[take_add_one,aj,q];rfl
  .obtain⟨rfl,rfl⟩:=J;rw[length_map,take_of_length_le (by rw[length_map];exact aa _)]
   exact jQ (aZ aG) aG (by simp;omega)<|bc<|q _ _ (((Gr.one _ _).more _).more _) aG
theorem uD{e:En}(B:gD st n e)(h:Q (.bl e.call) st):Wv (calls tab (k+1) sT [.ref n] st) Q:=by
 obtain⟨c,_⟩:=B
 walk_at "call0"
 cases e with
 |rk op ex z a x cs=>dsimp only[En.cls,En.fs] at c;refine ba<|w_and<|dB<|aH rfl ⟨_,_,_,true,rfl,c,rfl,true,rfl,λ_=>?_,λz=>(nomatch z)⟩;exact bi<|bh<|aH rfl<|ny c 0 rfl<|aV<|w_eq eq_str<|bc h
 |_=>dsimp only[En.cls,En.fs] at c;exact ba<|w_and<|dB<|aH rfl ⟨_,_,_,false,rfl,c,rfl,false,rfl,λz=>(nomatch z),λ_=>bc h⟩
theorem uv{e:En}(B:gD st n e)(h:Q (.int e.wt) st):Wv (calls tab (k+1) vH [.ref n] st) Q:=by
 obtain⟨c,_⟩:=B
 walk_at "call0"
 cases e with
 |rk op ex z a x cs=>dsimp only[En.cls,En.fs] at c;refine cr<|dB<|aH rfl ⟨_,_,_,true,rfl,c,rfl,true,rfl,λ_=>?_,λz=>(nomatch z)⟩;refine ba<|aY<|aV<|bL<|ac<|bh<|aH rfl<|ny c 4 rfl<|am<|gX<|w_add<|ff<|bc ?_;rw[length_map];exact h
 |br t a x b y=>dsimp only[En.cls,En.fs] at c;refine cr<|dB<|aH rfl ⟨_,_,_,false,rfl,c,rfl,false,rfl,λz=>(nomatch z),λ_=>aO<|a6 ?_⟩;exact cr<|dB<|aH rfl ⟨_,_,_,true,rfl,c,rfl,true,rfl,λ_=>ba<|aV<|ff<|bc h,λz=>(nomatch z)⟩
 |jp a x=>dsimp only[En.cls,En.fs] at c;refine cr<|dB<|aH rfl ⟨_,_,_,false,rfl,c,rfl,false,rfl,λz=>(nomatch z),λ_=>aO<|a6 ?_⟩;refine cr<|dB<|aH rfl ⟨_,_,_,false,rfl,c,rfl,false,rfl,λz=>(nomatch z),λ_=>aO<|a6 ?_⟩;exact ba<|tV<|dB<|aH rfl ⟨_,_,_,true,rfl,c,rfl,true,rfl,λ_=>aV<|bc h,λz=>(nomatch z)⟩
 |bk o=>dsimp only[En.cls,En.fs] at c;refine cr<|dB<|aH rfl ⟨_,_,_,false,rfl,c,rfl,false,rfl,λz=>(nomatch z),λ_=>aO<|a6 ?_⟩;refine cr<|dB<|aH rfl ⟨_,_,_,false,rfl,c,rfl,false,rfl,λz=>(nomatch z),λ_=>aO<|a6 ?_⟩;exact ba<|tV<|dB<|aH rfl ⟨_,_,_,false,rfl,c,rfl,false,rfl,λz=>(nomatch z),λ_=>aV<|bc h⟩
 |rs o=>dsimp only[En.cls,En.fs] at c;refine cr<|dB<|aH rfl ⟨_,_,_,false,rfl,c,rfl,false,rfl,λz=>(nomatch z),λ_=>aO<|a6 ?_⟩;refine cr<|dB<|aH rfl ⟨_,_,_,false,rfl,c,rfl,false,rfl,λz=>(nomatch z),λ_=>aO<|a6 ?_⟩;exact ba<|tV<|dB<|aH rfl ⟨_,_,_,false,rfl,c,rfl,false,rfl,λz=>(nomatch z),λ_=>aV<|bc h⟩
end
noncomputable def wy(e:En):List Nat:=match e.fol with
 |[a,b]=>if a=b then [a] else if a<b then [a,b] else [b,a]
 |l=>l
theorem Co(a b:Int):Tab23.iq [a,b]=if a=b then [a] else if a<b then [a,b] else [b,a]:=by
 by_cases h:a=b
 .subst h;rw[if_pos rfl];simp[Tab23.iq,Tab23.dX,Tab23.insI]
 .rw[if_neg h];have h2:¬b=a:=λz=>h z.symm;by_cases h3:a<b
  .rw[if_pos h3];simp[Tab23.iq,Tab23.dX,Tab23.insI,h2,Int.le_of_lt h3]
  .rw[if_neg h3];have:¬a<=b:=by omega
   simp[Tab23.iq,Tab23.dX,Tab23.insI,h2,this]
noncomputable def zs(l:List Nat):List Int:=l.map λ(a:Nat)=>(a:Int)
theorem z3(e:En)(c:e.fol.length<=2):Tab23.iq (zs e.fol)=zs (wy e):=by
 have two:∀a b:Nat,Tab23.iq [(a:Int),(b:Int)]=zs (if a=b then [a] else if a<b then [a,b] else [b,a]):=λa b=>by
  rw[Co];by_cases h:a=b
  .rw[if_pos h,if_pos (by rw[h])];rfl
  .rw[if_neg h,if_neg<|λz=>h<|ofNat_inj.mp z];by_cases h2:a<b
   .rw[if_pos h2,if_pos<|Int.ofNat_lt.mpr h2];rfl
   .rw[if_neg h2,if_neg<|λz=>h2<|Int.ofNat_lt.mp z];rfl
 have one:∀a:Nat,Tab23.iq [(a:Int)]=zs [a]:=λa=>by simp[zs,Tab23.iq,Tab23.dX,Tab23.insI]
 unfold wy;revert c;generalize e.fol=l;intro c
 match l,c with
 |[],_=>rfl
 |[a],_=>exact one a
 |[a,b],_=>exact two a b
 |_::_::_::_,c=>exact absurd c (by simp)
theorem tI{e:En}:a∈wy e↔a∈e.fol:=by
 have two:∀x y:Nat,a∈(if x=y then [x] else if x<y then [x,y] else [y,x])↔a∈[x,y]:=λx y=>by
  by_cases h:x=y
  .subst h;simp
  .rw[if_neg h];by_cases h2:x<y
   .rw[if_pos h2]
   .rw[if_neg h2];simp[or_comm]
 unfold wy
 match e.fol with
 |[]=>exact Iff.rfl
 |[x]=>exact Iff.rfl
 |[x,y]=>exact two x y
 |_::_::_::_=>exact Iff.rfl
theorem bK(h:xs[i]? =some d):iM xs (i:Int)=some d:=by
 have hi:=(aq h).1;obtain⟨d',e,e'⟩:=wE (xs:=xs) (i:=(i:Int)) (by omega) (by omega)
 rw[toNat_natCast,h] at e';rw[e,e']
section
variable{k n r:Nat}{st:aU}{Q:D->aU->Prop}{a:Ex}
theorem Cv{G:List Bl}{B:Bl}(hf:dj st r G)(Z:G[i]? =some B)(hb:∀a∈B.e.fol,a<10)(h:∀m st1,Gr st st1->st.length<=m->st1[m]? =ls ((zs<|wy B.e).map .int)->Q (.ref m) st1):Wv (calls tab (k+2) ou [.ref r,.int i] st) Q:=by
 obtain⟨t,g,x,y,bs,h1,h4⟩:=hf;have hi:i<bs.length:=by rw[h4.1];exact(aq Z).1
 have c:bs[i]? =some bs[i]:=af hi;obtain⟨ps,rs,n,_,_,e1,e4⟩:=h4.2 i _ B c Z;have Y:=e4.2
 walk_at "call0"
 have J:iM (bs.map D.ref) (i:Int)=some (.ref bs[i]):=bK (by rw[aj,c];rfl)
 refine ba<|zy<|bN<|qW (e:=B.e)<|bh<|be<|bh<|aH rfl<|zk h1 4 rfl<|aH rfl<|dg J<|wS e1 2 rfl ⟨n,rfl,e4,λm st1 g hm=>⟨_,rfl,?_⟩⟩;have hL:bG (.at m) st1=(eD B.e).length:=by simp only[bG,hm]
 have U:=wg B.e;refine b5 (L:=eD B.e) (by rw[hL];omega) (by rw[hL];exact aa _) (λj acc H=>H=st1/\acc=((zs B.e.fol).map D.int).take j) ⟨rfl,rfl⟩ (λj acc H F=>by rw[F.1];simp only[nxt,hm]) (λj x acc H I F=>?_) λacc H F=>?_
 .obtain⟨rfl,rfl⟩:=F;obtain⟨a,y,b,rfl,z⟩:=zn I;refine il<|be<|aH rfl<|aV<|dg rfl ⟨rfl,?_⟩;have z:((zs B.e.fol).map D.int)[j]? =nt a:=by unfold zs;rw[map_map,List.getElem?_map,z];rfl
  rw[take_add_one,z];rfl
 .obtain⟨rfl,rfl⟩:=F;have e5:((zs B.e.fol).map D.int).take (eD B.e).length=(zs B.e.fol).map D.int:=take_of_length_le (by unfold zs;simp[U])
  rw[e5];refine⟨zs B.e.fol,cH aG,by unfold zs;rw[length_map];exact Y,λx I=>?_,?_⟩
  .obtain⟨a,z,rfl⟩:=mem_map.mp I;have:=hb a z;omega
  .rw[z3 _ Y];exact bc<|h _ _ ((g.more _).more _) (by simp;have:=g.le;omega) aG
end
def cF(st:aU)(w:Nat)(Ws:List (List Nat)):Prop:=∃rs:List Nat,st[w]? =ls (rs.map .ref)/\rs.length=Ws.length/\∀(j r:Nat)(ws:List Nat),rs[j]? =some r->Ws[j]? =some ws->st[r]? =ls ((zs ws).map .int)
theorem cF.gr(h:cF st w Ws)(g:Gr st st'):cF st' w Ws:=by obtain⟨rs,h1,h2,c⟩:=h;exact⟨rs,g.at h1,h2,λj r ws a b=>g.at<|c j r ws a b⟩
theorem cF.bu{dn:Nat}(h:cF st w Ws)(hd:st[dn]? =dt kv)(b:Bu dn st st'):cF st' w Ws:=by
 obtain⟨rs,h1,h2,B⟩:=h;have ne:∀{i:Nat}{xs:List D},st[i]? =ls xs->i≠dn:=λe z=>by rw[z,hd] at e;cases e
 exact⟨rs,b.at h1<|ne h1,h2,λj r ws a c=>b.at (B j r ws a c)<|ne<|B j r ws a c⟩
noncomputable def wf(Ws:List (List Nat))(v:Nat):List Nat:=(Ws[v]?).getD []
theorem eY(h:Ws[v]? =some ws):wf Ws v=ws:=by unfold wf;rw[h];rfl
theorem bA(l:List Nat):((zs l).map D.int).length=l.length:=by simp[zs]
theorem fK{l:List Nat}(h:l[i]? =some a):((zs l).map D.int)[i]? =nt (a:Int):=by unfold zs;rw[map_map,aj,h];rfl
theorem lX{l:List Nat}{z:D}(h:((zs l).map D.int)[i]? =some z):∃a,l[i]? =some a/\z=.int (a:Int):=by have hi:=(aq h).1;rw[bA] at hi;have e:=af hi;rw[fK e] at h;exact⟨_,e,(ak h).symm⟩
theorem qR{l:List Nat}(nd:l.Nodup)(h:l[j]? =some b):b∉l.take j:=λz=>by
 obtain⟨B,F⟩:=aq h;obtain⟨i,hi,c⟩:=List.getElem_of_mem z;rw[List.getElem_take] at c;rw[length_take] at hi;have h1:=nd.idxOf_getElem i (by omega)
 have h2:=nd.idxOf_getElem j B;rw[c] at h1;rw[F] at h2;omega
theorem eO(l m:List Nat):(zs<|l++m).map D.int=(zs l).map D.int++(zs m).map D.int:=by simp[zs]
section
variable{k r:Nat}{st:aU}{Q:D->aU->Prop}
theorem uw{G:List Bl}(hg:G.length<=9)(F:∀B∈G,∀a∈B.e.fol,a<10)(hf:dj st r G)(h:∀m st1,Gr st st1->st.length<=m->cF st1 m (G.map λB=>wy B.e)->Q (.ref m) st1):Wv (calls tab (k+3) sR [.ref r] st) Q:=by
 have J:=hf;obtain⟨t,g0,x,y,bs,h1,h4⟩:=hf;have U:bs.length=G.length:=by rw[h4.1]
 walk_at "call0"
 refine ba<|bN<|bL<|ac<|bh<|aH rfl<|zk h1 4 rfl<|am<|gX ⟨_,bS (by rw[length_map];omega),?_⟩
 rw[toNat_natCast,length_map,U];refine b5 (L:=bx G.length) (by show(bx G.length).length<=1000000;rw[bp];omega) (aa _) (λi acc st1=>Gr st st1/\∃rs:List Nat,acc=rs.map .ref/\rs.length=i/\∀(j r:Nat)(ws:List Nat),rs[j]? =some r->(G.map λB=>wy B.e)[j]? =some ws->st1[r]? =ls ((zs ws).map .int)) ⟨.refl _,[],rfl,rfl,λj r ws a _=>by simp at a⟩ (λ_ _ _ _=>rfl) (λi x acc st1 hx Y=>?_) λacc st1 Y=>?_
 .obtain⟨g,rs,rfl,hi,c⟩:=Y;obtain⟨z,rfl⟩:=fk hx;have he:G[i]? =some G[i]:=af z;refine cz<|bC<|ac<|aH rfl<|ac<|aH rfl<|am<|Cv (J.gr g) he (F _<|getElem_mem z) λm st2 g2 hle hm=>?_;refine⟨g.trans g2,rs++[m],by simp,by simp[hi],λj r ws H Z=>?_⟩
  by_cases hj:j<rs.length
  .rw[aB hj] at H;exact g2.at<|c j r ws H Z
  .have I:j=i:=by have:=(aq H).1;simp at this;omega
   subst I;rw[az (by omega),hi,sub_self] at H
   cases H;rw[aj,he] at Z;cases Z;exact hm
 .obtain⟨g,rs,rfl,hi,c⟩:=Y;rw[bp] at hi;refine bc<|h _ _ (g.more _) g.le ⟨rs,aG,by simp[hi],λj r ws a b=>aZ<|c j r ws a b⟩
end
theorem pA{k:Key}{v:D}(h:∀p∈kvs,p.1≠k):bD kvs k v=kvs++[(k,v)]:=by unfold bD;rw[if_neg];intro z;obtain⟨p,c,B⟩:=any_eq_true.mp z;exact h p c<|of_decide_eq_true B
section
variable{k r:Nat}{st:aU}
noncomputable def pD(p:List (Nat×Nat)):List D:=p.reverse.map λq=>.tup [.int (q.1:Int),.int (q.2:Int)]
theorem jD(v i:Nat)(r:List (Nat×Nat)):pD ((v,i)::r)=pD r++[.tup [.int (v:Int),.int (i:Int)]]:=by simp[pD]
theorem uT(p:Key×D)(r:List (Key×D))(k:Key)(v:D):bD (p::r) k v=if p.1=k then(p.1,v)::r.map (λkv=>if kv.1=k then(kv.1,v) else kv) else p::bD r k v:=by
 unfold bD;by_cases e:p.1=k
 .simp[e]
 .simp only[any_cons,e,decide_false,Bool.false_or,if_false,map_cons];split<;>rfl
theorem qm{k c:Key}{v:D}(h:¬k=c):∀kvs:List (Key×D),bV (kvs.map λkv=>if kv.1=k then(kv.1,v) else kv) c=bV kvs c
 |[]=>rfl
 |p::r=>by
  rw[map_cons];unfold bV;rw[qm h r];by_cases e:p.1=k
  .rw[if_pos e,if_neg<|λz=>h<|e.symm.trans z,if_neg<|λz=>h<|e.symm.trans z]
  .rw[if_neg e]
theorem gH{k c:Key}{v:D}:∀kvs:List (Key×D),bV (bD kvs k v) c=if k=c then some v else bV kvs c
 |[]=>rfl
 |p::r=>by
  rw[uT];by_cases e:p.1=k
  .rw[if_pos e];unfold bV;by_cases e2:k=c
   .rw[if_pos (show p.1=c from e.trans e2),if_pos e2]
   .rw[if_neg<|λz=>e2<|e.symm.trans z,if_neg e2,qm e2,if_neg<|λz=>e2<|e.symm.trans z]
  .rw[if_neg e];unfold bV;rw[gH r];by_cases e2:k=c
   .rw[if_neg<|λz=>e<|z.trans e2.symm,if_pos e2,if_pos e2]
   .rw[if_neg e2,if_neg e2]
theorem mq(kv:List (Key×D))(key:Key)(v:D):(bD kv key v).length<=kv.length+1:=by
 unfold bD;split
 .rw[length_map];omega
 .rw[aE];simp
def KL(kv:List (Key×D)):Prop:=(kv.map (·.1)).Nodup/\∀p∈kv,∃x:Nat,p.1=.inl (x:Int)
theorem KL.put(h:KL kv)(x:Nat)(v:D):KL (bD kv (.inl (x:Int)) v):=by
 unfold bD;split
 .have e:∀p:Key×D,(if p.1=.inl (x:Int) then(p.1,v) else p).1=p.1:=λp=>by split<;>rfl
  refine⟨by rw[map_map];simpa[Function.comp_def,e] using h.1,λp B=>?_⟩
  obtain⟨q,F,rfl⟩:=mem_map.mp B;rw[e];exact h.2 q F
 .rename_i H;refine⟨?_,λp B=>?_⟩
  .rw[map_append,nodup_append];refine⟨h.1,by simp,λa b c d z=>H ?_⟩
   obtain⟨q,F,e⟩:=mem_map.mp b;rw[any_eq_true];exact⟨q,F,decide_eq_true (by rw[e,z];simpa using d)⟩
  .rcases mem_append.mp B with B|B
   .exact h.2 p B
   .exact⟨x,by rw[mem_singleton.mp B]⟩
structure Gi(Ws:List (List Nat))(st0:aU)(dn:Nat)(pile:List (Nat×Nat))(O:List Nat)(kvs:List (Key×D))(st:aU):Prop where
 inv:Go.Inv (wf Ws) pile O
 bu:Bu dn st0 st
 o:st[st0.length]? =ls ((zs O).map .int)
 p:st[st0.length+1]? =ls (pD pile)
 d:st[dn]? =dt kvs
 ky:∀v:Nat,(bV kvs<|.inl (v:Int)).isSome=decide (v∈Go.all pile O)
 kl:kvs.length=(Go.all pile O).length
 le:∀q∈pile,q.2<=(wf Ws q.1).length
 ln:(Go.all pile O).length+Go.left (wf Ws) Ws.length pile O<=60
end
theorem jI(h0:0<Ws.length)(hw:∀v f,f∈wf Ws v->f<Ws.length)(h:Go.bE (wf Ws) v):v<Ws.length:=by
 cases h with
 |zero=>exact h0
 |next c h=>exact hw _ _ h
theorem zW{f:Nat->Nat}(h:∀v,f v<=3):∀l:List Nat,(l.map f).sum<=3*l.length
 |[]=>aa _
 |x::l=>by rw[map_cons,sum_cons,length_cons];have:=zW h l;have:=h x;omega
theorem yh(z:Ws.length<=9)(h2:∀v,(wf Ws v).length<=2):Go.left (wf Ws) Ws.length [(0,0)] []<=40:=by
 unfold Go.left;have a:=zW (f:=λv=>(wf Ws v).length+1) (λv=>by have:=h2 v;omega)<|(range Ws.length).filter λv=>decide<|v∉Go.all [(0,0)] []
 have b:((range Ws.length).filter λv=>decide<|v∉Go.all [(0,0)] []).length<=Ws.length:=by have:=length_filter_le (λv=>decide<|v∉Go.all [(0,0)] [])<|range Ws.length;rwa [length_range] at this
 have c:=h2 0;simp only[map_cons,map_nil,sum_cons,sum_nil];omega
section
variable{k w dn:Nat}{st:aU}{Q:D->aU->Prop}
theorem uE(hW:cF st w Ws)(hn:0<Ws.length/\Ws.length<=9)(hw:∀v f,f∈wf Ws v->f<Ws.length)(h2:∀v,(wf Ws v).length<=2)(hd:st[dn]? =dt [])
  (h:∀O m st1,Bu dn st st1->Go.Inv (wf Ws) [] O->O.length<=60->st.length<=m->st1[m]? =ls ((zs O).map .int)->Q (.ref m) st1):Wv (calls tab (k+1) kq [.ref w,.int 0,.ref dn] st) Q:=by
 have hdl:dn<st.length:=(aq hd).1
 walk_at "call0"
 refine aW<|bw<|am<|eE<|aV<|aH rfl<|aH rfl<|cy (aZ hd) rfl (by decide) ?_
 refine aW<|bw<|ac<|bo<|ac<|aH rfl<|ac<|aV<|am<|am ?_;have e1:((st++[O.lst []]).set dn<|O.dct<|bD [] (.inl 0)<|.bl true).length=st.length+1:=by simp
 rw[e1];have b0:Bu dn st (((st++[O.lst []]).set dn<|O.dct<|bD [] (.inl 0)<|.bl true)++[O.lst [.tup [.int 0,.int 0]]]):=((Bu.gr<|.one _ _).set<|.inl rfl).trans<|.gr<|.one _ _
 have g0:Gi Ws st dn [(0,0)] [] [(.inl 0,.bl true)] (((st++[O.lst []]).set dn<|O.dct<|bD [] (.inl 0)<|.bl true)++[O.lst [.tup [.int 0,.int 0]]]):=by
  refine⟨Go.iY,b0,aZ<|sn aG (by omega),by rw[<-e1];exact aG,aZ<|bB (by simp;omega),λv=>?_,rfl,λq B=>by rw[mem_singleton.mp B];exact zero_le _,?_⟩
  .unfold bV;by_cases hv:v=0
   .subst hv;rfl
   .rw[if_neg<|λz=>hv (by have:=Sum.inl.inj z;omega)]
    simp[bV,Go.all,hv]
  .have:=yh hn.2 h2;simp only[Go.all,map_cons,map_nil,nil_append,length_cons,length_nil] at this ⊢;omega
 refine jM (λm loc st'=>∃pile O kvs a b c,loc=[rf w,nt 0,rf dn,rf st.length,rf<|st.length+1,a,b,c]/\Gi Ws st dn pile O kvs st'/\Go.left (wf Ws) Ws.length pile O<=m) 1000 (by decide) ⟨_,_,_,_,_,_,rfl,g0,by have:=g0.ln;omega⟩ λm loc st' hI=>?_
 obtain⟨pile,O,kvs,a,b,c,rfl,G,hm⟩:=hI;have o1:st.length≠dn:=by omega
 have o2:st.length+1≠dn:=by omega
 refine bi<|bL<|ac<|aH rfl<|am<|cU G.p<|aV<|w5 ⟨_,rfl,λz=>?_,λz=>?_⟩
 .cases pile with
  |nil=>cases z
  |cons q r=>
   obtain⟨v,i⟩:=q;have dec:=Go.sK (ways:=wf Ws) (n:=Ws.length) (v:=v) (i:=i) (r:=r) (O:=O) hw;have invS:=Go.vF G.inv;have U:v<Ws.length:=jI hn.1 hw<|G.inv.come v (by simp[Go.all])
   have J:Ws[v]? =some Ws[v]:=af U;have F:wf Ws v=Ws[v]:=eY J;obtain⟨rs,w1,w2,w3⟩:=hW.bu hd G.bu;have hrv:v<rs.length:=by omega
   have Y:rs[v]? =some rs[v]:=af hrv;have w4:=w3 v _ _ Y J;refine⟨m - 1,by omega,?_⟩
   have H:=G.p;rw[jD] at H;have lp:st.length+1<st'.length:=(aq H).1;have ld:dn<st'.length:=(aq G.d).1;refine aW<|tN<|aH rfl ⟨_,_,_,rfl,H,?_⟩;refine aW<|be<|aH rfl<|aV<|dg rfl ?_;have nw:∀{j:Nat}{xs:List D},st'[j]? =ls xs->j≠st.length+1->(st'.set (st.length+1)<|.lst<|pD r)[j]? =ls xs:=λe hne=>sn e<|Ne.symm hne;have wlt:w<st.length:=by obtain⟨_,e,_⟩:=hW;exact(aq e).1
   have rlt:rs[v]<st.length:=by
    obtain⟨rs',e,e2,e3⟩:=hW;have hb:=G.bu.at e (λz=>by rw[z,hd] at e;cases e)
    rw[hb] at w1
    have:rs'=rs:=by have:=ak w1;have:=Ev.O.lst.inj this;exact(List.map_inj_right<|λx y z=>D.ref.inj z).mp this
    subst this;exact(aq<|e3 v _ _ Y J).1
   have I:iM (rs.map D.ref) (v:Int)=some (.ref rs[v]):=bK (by rw[aj,Y];rfl)
   refine cr<|bi<|be<|aH rfl<|aV<|dg rfl<|bL<|ac<|be<|aH rfl<|aH rfl<|bI (nw w1 (by omega)) I<|am<|cU (nw w4 (by omega))<|k9 ⟨_,rfl,λz=>?_,λz=>?_⟩
   .have z:(i:Int)=(((zs Ws[v]).map D.int).length:Nat):=of_decide_eq_true z;rw[bA] at z;have Z:(wf Ws v)[i]? =none:=by rw[F];exact a_ (by omega)
    have es:Go.step (wf Ws) ((v,i)::r) O=(r,O++[v]):=by simp only[Go.step,Z]
    rw[es] at dec invS;refine dJ<|aH rfl<|ce (nw G.o (by omega))<|aH rfl<|bU (nw G.o (by omega)) ?_<|zO<|C8<|C9 ⟨r,O++[v],kvs,_,_,_,rfl,?_,by dsimp only at dec;omega⟩
    .rw[bA];have:=G.ln;simp only[Go.all,length_append] at this;omega
    .have ea:Go.all r (O++[v])=Go.all ((v,i)::r) O:=Go.nk;refine⟨invS,(G.bu.set<|.inr (by omega)).set<|.inr<|aa _,?_,?_,?_,?_,?_,λq B=>G.le q<|.tail _ B,?_⟩
     .rw[bB (by rw[aA];omega),eO];rfl
     .exact sn (bB lp) (by omega)
     .exact sn (sn G.d (by omega)) (by omega)
     .rw[ea];exact G.ky
     .rw[ea];exact G.kl
     .rw[ea];have:=G.ln;dsimp only at dec;omega
   .have z:¬(i:Int)=(((zs Ws[v]).map D.int).length:Nat):=of_decide_eq_false z;rw[bA] at z;have hle:=G.le (v,i)<|.head _;rw[show wf Ws (v,i).1=Ws[v] from F] at hle;have hle:i<=Ws[v].length:=hle;have hil:i<Ws[v].length:=by omega
    have hf:Ws[v][i]? =some Ws[v][i]:=af hil;obtain⟨f,hff⟩:∃f,f=Ws[v][i]:=⟨_,rfl⟩;rw[<-hff] at hf;have hfw:(wf Ws v)[i]? =some f:=by rw[F];exact hf
    have nl:(pD r).length+(O.length+1)<=1000:=by have:=G.ln;simp only[Go.all,length_append,length_map,length_cons] at this;simp only[pD,length_map,length_reverse];omega
    refine aO<|a6<|dJ<|aH rfl<|ce (bB lp)<|bo<|ac<|aH rfl<|ac<|aY<|be<|aH rfl<|aV<|dg rfl<|aV<|w_add<|am<|bU (bB lp) (by omega) ?_
    rw[set_set,<-show pD ((v,i+1)::r)=pD r++[.tup [.int (v:Int),.int<|(i:Int)+1]] from jD v (i+1) r];have nw2:∀{j:Nat}{xs ys:List D},st'[j]? =ls xs->j≠st.length+1->(st'.set (st.length+1)<|.lst ys)[j]? =ls xs:=λe hne=>sn e<|Ne.symm hne;refine aW<|be<|be<|aH rfl<|aH rfl<|bI (nw2 w1 (by omega)) I<|be<|aH rfl<|aV<|dg rfl<|bI (nw2 w4 (by omega)) (bK<|fK hf) ?_
    have dd:(st'.set (st.length+1)<|.lst<|pD<|(v,i+1)::r)[dn]? =dt kvs:=sn G.d (by omega)
    have ky:=G.ky f;refine cr<|bi<|aH rfl<|aH rfl<|tP dd rfl ⟨_,rfl,λz=>?_,λz=>?_⟩
    .have hnot:f∉Go.all ((v,i)::r) O:=by rw[ky] at z;simpa using z
     have U:bV kvs (.inl (f:Int))=none:=by
      cases q:bV kvs (.inl (f:Int)) with
      |none=>rfl
      |some d=>rw[q] at z;cases z
     have es:Go.step (wf Ws) ((v,i)::r) O=((f,0)::(v,i+1)::r,O):=by simp only[Go.step,hfw];rw[if_neg hnot]
     rw[es] at dec invS;have eal:(Go.all ((f,0)::(v,i+1)::r) O).length=(Go.all ((v,i)::r) O).length+1:=by simp[Go.all];omega
     refine eE<|aV<|aH rfl<|aH rfl<|cy dd rfl ?_ ?_
     .have:=G.kl;have:=G.ln;omega
     have pp:((st'.set (st.length+1)<|.lst<|pD<|(v,i+1)::r).set dn<|.dct<|bD kvs (.inl (f:Int))<|.bl true)[st.length+1]? =ls (pD<|(v,i+1)::r):=sn (bB lp) (by omega)
     refine dJ<|aH rfl<|ce pp<|bo<|ac<|aH rfl<|ac<|aV<|am<|bU pp ?_<|aO<|a6<|aO<|bW ⟨(f,0)::(v,i+1)::r,O,bD kvs (.inl (f:Int))<|.bl true,_,_,_,rfl,?_,by dsimp only at dec;omega⟩
     .rw[jD,aE];simp only[length_cons,length_nil];omega
     refine⟨invS,((G.bu.set<|.inr (by omega)).set<|.inl rfl).set<|.inr (by omega),?_,?_,?_,λx=>?_,?_,λq B=>?_,?_⟩
     .exact sn (sn (sn G.o (by omega)) (by omega)) (by omega)
     .rw[bB (by rw[aA,aA];exact lp),jD f 0];rfl
     .exact sn (bB (by rw[aA];exact ld)) (by omega)
     .rw[gH];by_cases hx:x=f
      .subst hx;rw[if_pos rfl];simp[Go.all]
      .rw[if_neg<|λz=>hx (by have:=Sum.inl.inj z;omega),G.ky x]
       congr 1;simp only[Go.all,map_cons,mem_append,mem_cons,eq_iff_iff];constructor
       .rintro(h|h|h)
        .exact .inl h
        .exact .inr<|.inr<|.inl h
        .exact .inr<|.inr<|.inr h
       .rintro(h|h|h|h)
        .exact .inl h
        .exact absurd h hx
        .exact .inr<|.inl h
        .exact .inr<|.inr h
     .rw[eal,pA]
      .rw[aE,G.kl];rfl
      .intro p H z
       have:∀{kv:List (Key×D)},p∈kv->bV kv (.inl (f:Int))≠none:=by
        intro kv
        induction kv with
        |nil=>intro h;cases h
        |cons q r ih=>
         intro H;unfold bV;by_cases e:q.1=.inl (f:Int)
         .rw[if_pos e];simp
         .rw[if_neg e];rcases mem_cons.mp H with rfl|H
          .exact absurd z e
          .exact ih H
       exact this H U
     .rcases mem_cons.mp B with rfl|B
      .exact zero_le _
      .rcases mem_cons.mp B with rfl|B
       .show i+1<=(wf Ws v).length;rw[F];omega
       .exact G.le q<|.tail _ B
     .rw[eal];have:=G.ln;dsimp only at dec;omega
    .have hyes:f∈Go.all ((v,i)::r) O:=by rw[ky] at z;simpa using z
     have es:Go.step (wf Ws) ((v,i)::r) O=((v,i+1)::r,O):=by simp only[Go.step,hfw];rw[if_pos hyes]
     rw[es] at dec invS;refine aO<|a6<|aO<|bW ⟨(v,i+1)::r,O,kvs,_,_,_,rfl,?_,by dsimp only at dec;omega⟩
     refine⟨invS,G.bu.set<|.inr (by omega),?_,bB lp,dd,G.ky,G.kl,λq B=>?_,?_⟩
     .exact sn G.o (by omega)
     .rcases mem_cons.mp B with rfl|B
      .show i+1<=(wf Ws v).length;rw[F];omega
      .exact G.le q<|.tail _ B
     .have:=G.ln;have e2:(Go.all ((v,i+1)::r) O)=Go.all ((v,i)::r) O:=rfl;rw[e2];dsimp only at dec;omega
 .cases pile with
  |cons q r=>exact absurd z (by simp[pD])
  |nil=>refine ba<|aH rfl<|bc<|h O _ _ G.bu G.inv ?_ (aa _) G.o;have:=G.ln;simp only[Go.all,length_append] at this;omega
end
open Classical in
noncomputable def al(P:Nat->Prop)(n:Nat):List Nat:=(range n).filter λv=>decide<|P v
theorem jf{P:Nat->Prop}:v∈al P n↔v<n/\P v:=by unfold al;rw[mem_filter,mem_range];simp
theorem DM(P:Nat->Prop)(n:Nat):(al P n).Pairwise (· < ·):=Pairwise.filter _ List.pairwise_lt_range
theorem o4{l:List Nat}{x:Int}:x∈zs l↔∃v∈l,(v:Int)=x:=by unfold zs;rw[mem_map]
theorem nj{v:Nat}:∀F:List Nat,fN (.int (v:Int)) ((zs F).map .int)=some (decide<|v∈F)
 |[]=>rfl
 |x::F=>by
  show(match nz (.int (x:Int)) (.int (v:Int)),fN (.int (v:Int)) ((zs F).map .int) with|some a,some b=>some (a||b)|_,_=>none)=_
  have e:nz (.int (x:Int)) (.int (v:Int))=some (decide<|(x:Int)=v):=rfl;rw[e,nj F];dsimp only;congr 1;by_cases h:v=x
  .subst h;simp
  .have h':¬((x:Int)=v):=by omega
   simp[h,h']
theorem oW{P Q:Nat->Prop}(h:∀x,P x↔Q x):al P n=al Q n:=by have:P=Q:=funext λx=>propext<|h x;rw[this]
theorem qg(P:Nat->Prop)(n:Nat):(al P n).length<=n:=by have:=length_filter_le (λv=> @decide (P v)<|Classical.propDecidable _)<|range n;rw[length_range] at this;exact this
theorem zu(P:Nat->Prop)(n:Nat):(al P n).Nodup:=(DM P n).imp λh z=>by omega
theorem cW:∀(xs:List D)(k:Nat),(dC k xs).length=xs.length
 |[],_=>rfl
 |x::xs,k=>by rw[dC,length_cons,cW xs,length_cons]
structure Ls(s0 st:aU)(b:Nat)(rs:List Nat)(Bs:List (List Nat)):Prop where
 hd:st[b]? =ls (rs.map .ref)
 ln:rs.length=Bs.length
 nd:rs.Nodup
 ab:∀r∈rs,s0.length<=r/\r<b
 at_:∀(j r:Nat)(ws:List Nat),rs[j]? =some r->Bs[j]? =some ws->st[r]? =ls ((zs ws).map .int)
theorem Ls.ways(h:Ls s0 st b rs Bs):cF st b Bs:=⟨rs,h.hd,h.ln,h.at_⟩
theorem Ls.gr(h:Ls s0 st b rs Bs)(g:Gr st st'):Ls s0 st' b rs Bs:=⟨g.at h.hd,h.ln,h.nd,h.ab,λj r ws a c=>g.at<|h.at_ j r ws a c⟩
theorem Ls.put(h:Ls s0 st b rs Bs)(B:rs[v]? =some r):Ls s0 (st.set r<|.lst<|(zs ws).map .int) b rs (Bs.set v ws):=by
 have H:=ag B;have U:=h.ab r H;have I:=(aq B).1;have Y:b<st.length:=(aq h.hd).1;refine⟨sn h.hd (by omega),by rw[aA];exact h.ln,h.nd,h.ab,λj J F a c=>?_⟩
 by_cases hj:j=v
 .subst hj;rw[B] at a;cases a;rw[aK (by rw[<-h.ln];exact I)] at c
  cases c;exact bB (by omega)
 .rw[aD<|λz=>hj z.symm] at c;refine sn (h.at_ j J F a c) λz=>hj ?_;subst z;exact((List.getElem?_inj I h.nd).mp<|B.trans a.symm).symm
section
variable{k n w:Nat}{st:aU}{Q:D->aU->Prop}
theorem sq{c:Ex}(U:n<=9)(h:∀rs st1,Gr st st1->Ls st st1 (st1.length - 1) rs (replicate n [])->0<st1.length->st.length<=st1.length - 1->Q (.ref<|st1.length - 1) st1):W (cY (eF (run g c) (run g<|.lst []) false false loc) (.its<|bx n) st) Q:=by
 refine b5 (L:=bx n) (by show(bx n).length<=1000000;rw[bp];omega) (aa _) (λi acc st1=>Gr st st1/\∃rs:List Nat,acc=rs.map .ref/\rs.length=i/\rs.Nodup/\(∀r∈rs,st.length<=r/\r<st1.length)/\∀r∈rs,st1[r]? =ls []) ⟨.refl _,[],rfl,rfl,.nil,(λr z=>nomatch z),λr z=>nomatch z⟩ (λ_ _ _ _=>rfl) (λi x acc st1 J B=>?_) λacc st1 B=>?_
 .obtain⟨g,rs,rfl,hi,nd,h1,h2⟩:=B;have Y:=g.le;refine cz (bw<|am ⟨g.more _,rs++[st1.length],by simp,by simp[hi],?_,λr z=>?_,λr z=>?_⟩)
  .rw[nodup_append];refine⟨nd,by simp,λa I b H=>?_⟩
   rw[mem_singleton.mp H];have:=h1 a I;omega
  .rw[aE];rcases mem_append.mp z with z|z
   .have:=h1 r z;simp only[length_cons,length_nil];omega
   .rw[mem_singleton.mp z];simp only[length_cons,length_nil];omega
  .rcases mem_append.mp z with z|z
   .exact aZ<|h2 r z
   .rw[mem_singleton.mp z];exact aG
 .obtain⟨g,rs,rfl,hi,nd,h1,h2⟩:=B;rw[bp] at hi;have F:(st1++[O.lst<|rs.map .ref]).length - 1=st1.length:=by simp
  have:=h rs _ (g.more _) (by rw[F];exact⟨aG,by simp[hi],nd,h1,λj r ws a c=>by
   rw[List.getElem?_replicate] at c;split at c
   .cases c;exact aZ (h2 r<|ag a)
   .cases c⟩) (by simp) (by rw[F];exact g.le)
  rw[F] at this;exact this
def wN(Ws:List (List Nat))(i j v u:Nat):Prop:=(u<i/\v∈wf Ws u)∨(u=i/\v∈(wf Ws i).take j)
structure Ti(Ws:List (List Nat))(i j m:Nat)(Bs:List (List Nat)):Prop where
 ln:Bs.length=Ws.length
 le:∀ws∈Bs,ws.length<=m
 mem:∀v u:Nat,u∈wf Bs v↔wN Ws i j v u
theorem Ti.start(Ws:List (List Nat)):Ti Ws 0 0 0 (replicate Ws.length []):=by
 refine⟨by simp,λws h=>?_,λv u=>?_⟩
 .rw[List.eq_of_mem_replicate h];exact aa _
 .have:wf (replicate Ws.length []) v=[]:=by unfold wf;rw[List.getElem?_replicate];split<;>rfl
  rw[this];constructor
  .intro h;cases h
  .rintro(⟨h,_⟩|⟨_,h⟩)
   .omega
   .simp at h
theorem Ti.add{f:Nat}(h:Ti Ws i j m Bs)(H:(wf Ws i)[j]? =some f)(F:f<Ws.length):Ti Ws i (j+1) (m+1) (Bs.set f<|wf Bs f++[i]):=by
 have c:f<Bs.length:=by rw[h.ln];exact F
 have e:Bs[f]? =some Bs[f]:=af c;have I:wf Bs f=Bs[f]:=eY e;refine⟨by rw[aA];exact h.ln,λws hw=>?_,λv u=>?_⟩
 .rcases List.mem_or_eq_of_mem_set hw with hw|rfl
  .have:=h.le ws hw;omega
  .rw[aE,I];have:=h.le _<|getElem_mem c;simp only[length_cons,length_nil];omega
 .have tk:(wf Ws i).take (j+1)=(wf Ws i).take j++[f]:=by rw[take_add_one,H];rfl
  have B:=h.mem v u;by_cases hv:v=f
  .subst hv
   have:wf (Bs.set v<|wf Bs v++[i]) v=wf Bs v++[i]:=by
    conv=>lhs;unfold wf
    rw[aK c];rfl
   rw[this,mem_append,B];unfold wN;rw[tk];simp only[mem_append,mem_singleton];constructor
   .rintro((⟨a,b⟩|⟨a,b⟩)|a)
    .exact .inl ⟨a,b⟩
    .exact .inr ⟨a,.inl b⟩
    .exact .inr ⟨a,.inr trivial⟩
   .rintro(⟨a,b⟩|⟨a,b|b⟩)
    .exact .inl<|.inl ⟨a,b⟩
    .exact .inl<|.inr ⟨a,b⟩
    .exact .inr a
  .have:wf (Bs.set f<|wf Bs f++[i]) v=wf Bs v:=by
    conv=>lhs;unfold wf
    rw[aD<|λz=>hv z.symm];rfl
   rw[this,B];unfold wN;rw[tk];simp only[mem_append,mem_singleton];constructor
   .rintro(⟨a,b⟩|⟨a,b⟩)
    .exact .inl ⟨a,b⟩
    .exact .inr ⟨a,.inl b⟩
   .rintro(⟨a,b⟩|⟨a,b|b⟩)
    .exact .inl ⟨a,b⟩
    .exact .inr ⟨a,b⟩
    .exact absurd b hv
theorem Ti.next(h:Ti Ws i (wf Ws i).length m Bs):Ti Ws (i+1) 0 m Bs:=by
 refine⟨h.ln,h.le,λv u=>(h.mem v u).trans ?_⟩;unfold wN;rw[take_length];simp only[take_zero,List.not_mem_nil,and_false,or_false];constructor
 .rintro(⟨a,b⟩|⟨a,b⟩)
  .exact⟨by omega,b⟩
  .exact⟨by omega,a▸b⟩
 .rintro⟨a,b⟩;by_cases e:u=i
  .exact .inr ⟨e,e▸b⟩
  .exact .inl ⟨by omega,b⟩
theorem uz(hW:cF st w Ws)(hn:Ws.length<=9)(hw:∀v f,f∈wf Ws v->f<Ws.length)(h2:∀v,(wf Ws v).length<=2)
  (h:∀Bs m st1,Gr st st1->st.length<=m->cF st1 m Bs->Bs.length=Ws.length->(∀ws∈Bs,ws.length<=30)->(∀v u:Nat,u∈wf Bs v↔v∈wf Ws u)->Q (.ref m) st1):Wv (calls tab (k+1) vI [.ref w] st) Q:=by
 obtain⟨ws0,J,H,hwr⟩:=id hW
 walk_at "call0"
 refine aW<|bN<|bL<|ac<|aH rfl<|am<|cU J ⟨_,bS (by rw[length_map];omega),?_⟩
 rw[toNat_natCast,length_map,H];refine sq hn λrs st1 g1 ls hpos Z=>?_;obtain⟨b,hb⟩:∃b,b=st1.length - 1:=⟨_,rfl⟩;rw[<-hb] at ls Z ⊢;refine jz<|aH rfl ⟨_,rfl,?_⟩;have hL:bG (.en w) st1=(ws0.map D.ref).length:=by simp only[bG,g1.at J]
 refine cj (L:=dC 0<|ws0.map .ref) (by rw[hL,cW];exact aa _) (λi loc st'=>(∃x y z,loc=[rf w,rf b,x,y,z])/\Gr st st'/\∃Bs,Ls st st' b rs Bs/\Ti Ws i 0 (2*i) Bs) ⟨⟨_,_,_,rfl⟩,g1,_,ls,Ti.start Ws⟩ (λi loc st' B=>?_) (λi z loc st' c B=>?_) λloc st' B=>?_
 .obtain⟨_,g,_⟩:=B;simp only[nxt,g.at J,cJ,zero_add]
 .obtain⟨⟨x,y,z',rfl⟩,g,Bs,ls,T⟩:=B;rw[cJ,aj] at c;cases hwi:ws0[i]? with
  |none=>rw[hwi] at c;cases c
  |some r=>
   rw[hwi] at c;have c:D.tup [.int ((0+i:Nat):Int),.ref r]=z:=ak c;rw[zero_add] at c;subst c;have hi:i<Ws.length:=by rw[<-H];exact(aq hwi).1
   have hWi:Ws[i]? =some Ws[i]:=af hi;have I:wf Ws i=Ws[i]:=eY hWi;have hr:=hwr i r _ hwi hWi;refine wZ rfl<|dk<|aH rfl ⟨_,rfl,?_⟩;have hL2:bG (.at r) st'=((zs Ws[i]).map D.int).length:=by simp only[bG,g.at hr]
   refine cj (L:=(zs Ws[i]).map .int) (by rw[hL2];exact aa _) (λj loc st'=>(∃z,loc=[rf w,rf b,nt (i:Int),rf r,z])/\Gr st st'/\∃Bs,Ls st st' b rs Bs/\Ti Ws i j (2*i+j) Bs) ⟨⟨_,rfl⟩,g,Bs,ls,T⟩ (λj loc st' B=>?_) (λj z loc st' c B=>?_) λloc st' B=>?_
   .obtain⟨_,g,_⟩:=B;simp only[nxt,g.at hr]
   .obtain⟨⟨z2,rfl⟩,g,Bs,ls,T⟩:=B
    have hj:j<Ws[i].length:=by have:=(aq c).1;rwa [bA] at this
    have hf:Ws[i][j]? =some Ws[i][j]:=af hj;rw[fK hf] at c;cases c;have hfw:(wf Ws i)[j]? =some Ws[i][j]:=by rw[I];exact hf
    have Y:=hw i _<|ag hfw;have hrf:Ws[i][j]<rs.length:=by rw[ls.ln,T.ln];exact Y
    have F:rs[Ws[i][j]]? =some rs[Ws[i][j]]:=af hrf
    have hBf:Bs[Ws[i][j]]? =some (wf Bs Ws[i][j]):=by
     obtain⟨ws,e⟩:∃ws,Bs[Ws[i][j]]? =some ws:=⟨_,af (by rw[T.ln];exact Y)⟩
     rw[eY e];exact e
    have hat:=ls.at_ _ _ _ F hBf;have hle2:=T.le _<|ag hBf;have h2i:=h2 i;rw[I] at h2i;refine dJ<|be<|aH rfl<|aH rfl<|bI ls.hd (bK (by rw[aj,F];rfl))<|ce hat<|aH rfl<|bU hat (by rw[bA];omega) ?_
    refine aO<|bW ⟨⟨_,rfl⟩,g.set (ls.ab _<|ag F).1,_,?_,T.add hfw Y⟩;rw[<-show(zs<|wf Bs Ws[i][j]++[i]).map D.int=(zs<|wf Bs Ws[i][j]).map D.int++[.int (i:Int)] from eO _ _];exact ls.put F
   .obtain⟨⟨z2,rfl⟩,g,Bs,ls,T⟩:=B;rw[bA,<-I] at T;have h2i:=h2 i;refine a6<|aO<|bW ⟨⟨_,_,_,rfl⟩,g,Bs,ls,?_⟩;have:=T.next
    exact⟨this.ln,λws U=>by have:=this.le ws U;omega,this.mem⟩
 .obtain⟨⟨x,y,z',rfl⟩,g,Bs,ls,T⟩:=B;rw[cW,length_map,H] at T;refine a6 (ba<|aH rfl<|bc<|h Bs _ _ g Z ls.ways T.ln (λws U=>by have:=T.le ws U;omega) λv u=>(T.mem v u).trans ?_)
  unfold wN;simp only[take_zero,List.not_mem_nil,and_false,or_false];constructor
  .exact λa=>a.2
  .intro a;refine⟨?_,a⟩;unfold wf at a;cases q:Ws[u]? with
   |none=>rw[q] at a;cases a
   |some _=>exact(aq q).1
end
section
variable{Ws:List (List Nat)}{O:List Nat}
abbrev Ed(Ws:List (List Nat))(x y:Nat):Prop:=y∈wf Ws x
theorem kJ{x:Nat}:Dom.bE (Ed Ws) x↔Go.bE (wf Ws) x:=by
 constructor
 .rintro⟨l,w⟩
  induction w with
  |nil=>exact .zero
  |cons w e ih=>exact .next ih e
 .intro c
  induction c with
  |zero=>exact⟨_,.nil⟩
  |next c h ih=>obtain⟨l,w⟩:=ih;exact⟨_,.cons w h⟩
theorem cK(I:Go.Inv (wf Ws) [] O){x:Nat}:Dom.bE (Ed Ws) x↔x∈O:=kJ.trans (Go.re I).symm
theorem tD(I:Go.Inv (wf Ws) [] O):O.Nodup:=by have:=I.nd;simpa[Go.all] using this
theorem qj(I:Go.Inv (wf Ws) [] O):∃l,O=l++[0]:=by have:=I.zero;simpa[Go.all] using this
noncomputable abbrev rk(O:List Nat)(x:Nat):Nat:=O.idxOf x
theorem wM(I:Go.Inv (wf Ws) [] O):Dom.Rk (Ed Ws) (rk O):=
 ⟨λx y c z e=>Go.mH ((cK I).mp c) ((cK I).mp z) e,λx c=>Go.lB I<|(cK I).mp c⟩
def pre(O:List Nat)(Ls:List (List Nat))(b:Nat):List Nat:=(wf Ls<|O.idxOf b).map λx=>O.getD x 0
def dW(O:List Nat)(Ls:List (List Nat))(N:Nat->Option Nat)(b:Nat):Nat:=match(pre O Ls b).filter λp=>(N p).isSome with
 |[]=>0
 |p::ps=>(Dom.meet (rk O) N 1000 p<|p::ps).getD 0
structure LsOk(Ws:List (List Nat))(O:List Nat)(Ls:List (List Nat)):Prop where
 ln:Ls.length=O.length
 sz:∀ws∈Ls,ws.length<=60
 mem:∀j b:Nat,O[j]? =some b->∀x,x∈wf Ls j↔∃p∈O,b∈wf Ws p/\O.idxOf p=x
theorem kA(h:p∈O):O.getD (O.idxOf p) 0=p:=by have c:O.idxOf p<O.length:=List.idxOf_lt_length_iff.mpr h;rw[List.getD_eq_getElem?_getD,af c];simp
theorem qf(h:b∈O):O[O.idxOf b]? =some b:=by have c:O.idxOf b<O.length:=List.idxOf_lt_length_iff.mpr h;rw[af c];simp
theorem A7(nd:O.Nodup)(h:O[j]? =some b):O.idxOf b=j:=by obtain⟨c,rfl⟩:=aq h;exact nd.idxOf_getElem j c
theorem qI{Ls:List (List Nat)}(L:LsOk Ws O Ls)(B:b∈O):p∈pre O Ls b↔b∈wf Ws p/\p∈O:=by
 unfold pre;rw[mem_map];constructor
 .rintro⟨x,F,rfl⟩;obtain⟨q,c,e,rfl⟩:=(L.mem _ b (qf B) x).mp F;rw[kA c];exact⟨e,c⟩
 .rintro⟨e,z⟩;exact⟨O.idxOf p,(L.mem _ b (qf B) _).mpr ⟨p,z,e,rfl⟩,kA z⟩
theorem nI(I:Go.Inv (wf Ws) [] O){Ls:List (List Nat)}(hO:O.length<=100)(K:Dom.Ok (Ed Ws) (rk O) N)(h:∃f∈pre O Ls b,∃y,N f=some y):
  ∃p ps q,(pre O Ls b).filter (λp=>(N p).isSome)=p::ps/\Dom.meet (rk O) N 1000 p (p::ps)=some q/\dW O Ls N b=q/\(∃y,N q=some y)/\∀c,Dom.Chain N q c↔∀p∈pre O Ls b,(∃y,N p=some y)->Dom.Chain N p c:=by
 have R:=wM I;have H:∀{x:Nat},(N x).isSome=true↔∃y,N x=some y:=λ{x}=>by rw[isSome_iff_exists]
 obtain⟨f,Y,y,J⟩:=h;cases q:(pre O Ls b).filter λp=>(N p).isSome with
 |nil=>have:f∈(pre O Ls b).filter λp=>(N p).isSome:=mem_filter.mpr ⟨Y,H.mpr ⟨y,J⟩⟩;rw[q] at this;cases this
 |cons p ps=>
  have B:∀x,x∈p::ps↔x∈pre O Ls b/\∃y,N x=some y:=λx=>by rw[<-q,mem_filter];exact⟨λz=>⟨z.1,H.mp z.2⟩,λz=>⟨z.1,H.mpr z.2⟩⟩
  have h0:rk O 0<=100:=by have:O.idxOf 0<=O.length:=List.idxOf_le_length;show O.idxOf 0<=100;omega
  obtain⟨r,U,e2,Z⟩:=Dom.qV R K (k:=1000) (by omega) (p::ps) p ((B p).mp<|.head _).2 λx F=>((B x).mp F).2
  refine⟨p,ps,r,rfl,U,by unfold dW;rw[q];dsimp only;rw[U];rfl,e2,λc=>?_⟩
  rw[Z];exact⟨λz x F J=>z.2 x<|(B x).mpr ⟨F,J⟩,λz=>⟨z p ((B p).mp<|.head _).1 ((B p).mp<|.head _).2,λx F=>z x ((B x).mp F).1 ((B x).mp F).2⟩⟩
theorem t7(I:Go.Inv (wf Ws) [] O){Ls:List (List Nat)}(L:LsOk Ws O Ls)(J:O.length<=100):Dom.Upd (Ed Ws) (rk O) (λb=>if b∈O then pre O Ls b else(al (λp=>b∈wf Ws p/\p∈O)<|O.foldl max 0+1)) (dW O Ls):=by
 have B:∀(l:List Nat)(a x:Nat),x∈l∨x<=a->x<=l.foldl max a:=by
  intro l
  induction l with
  |nil=>intro a x h;exact h.elim (λz=>nomatch z) id
  |cons y l ih=>
   intro a x h;refine ih _ x ?_;rcases h with h|h
   .rcases mem_cons.mp h with rfl|h
    .exact .inr<|Nat.le_max_right ..
    .exact .inl h
   .exact .inr<|aM h<|Nat.le_max_left ..
 refine⟨λb p=>?_,λb c H=>?_,λN b K c H h=>?_⟩
 .by_cases c:b∈O
  .rw[if_pos c,qI L c,cK I]
  .rw[if_neg c,jf,cK I];refine⟨λz=>z.2,λz=>⟨Nat.lt_succ_of_le<|B O 0 p<|.inl z.2,z⟩⟩
 .obtain⟨f,h1,h2,U⟩:=Go.lC I ((cK I).mp H) c;exact⟨f,h1,(cK I).mpr h2,U⟩
 .have F:=(cK I).mp H;rw[if_pos F] at h ⊢;obtain⟨p,ps,q,e1,e2,e3,Z,Y⟩:=nI I J K h;rw[e3];exact⟨Z,Y⟩
end
def ND(kv:List (Key×D))(N:Nat->Option Nat):Prop:=(∀x:Nat,bV kv (.inl (x:Int))=(N x).map λ(y:Nat)=>D.int (y:Int))/\KL kv
theorem ND.at(h:ND kv N){x:Nat}(e:N x=some y):bV kv (.inl (x:Int))=nt (y:Int):=by rw[h.1 x,e];rfl
section
variable{k:Nat}{st:aU}{Q:D->aU->Prop}{Ws:List (List Nat)}{O:List Nat}
theorem uH{c q:Nat}{ps:List Nat}{kn kr:List (Key×D)}(K:Dom.Ok (Ed Ws) (rk O) N)(hd:∀x y,N x=some y->x∈O)(ha:st[a]? =ls ((zs<|p::ps).map .int))(hb:st[b]? =dt kn)(hc:st[c]? =dt kr)(hN:ND kn N)(hR:ND kr λx=>if x∈O then some (rk O x) else none)
  (hp:∀x∈p::ps,∃y,N x=some y)(J:Dom.meet (rk O) N 1000 p (p::ps)=some q)(h:Q (.int (q:Int)) st):Wv (calls tab (k+1) kt [.ref a,.ref b,.ref c] st) Q:=by
 walk_at "call0"
 have hR':∀x y,N x=some y->bV kr (.inl (x:Int))=nt ((rk O x:Nat):Int):=λx y e=>hR.at (y:=rk O x) (by rw[if_pos<|hd x y e])
 refine aW<|be<|aH rfl<|aV<|bI ha (bK (i:=0)<|fK (a:=p) rfl)<|dk<|aH rfl ⟨_,rfl,?_⟩;have hL:bG (.at a) st=((zs<|p::ps).map D.int).length:=by simp only[bG,ha]
 refine cj (L:=(zs<|p::ps).map .int) (by rw[hL];exact aa _) (λi loc st'=>st'=st/\∃H x y,loc=[rf a,rf b,rf c,nt ((H:Nat):Int),x,y]/\Dom.meet (rk O) N 1000 H ((p::ps).drop i)=some q/\∃z,N H=some z) ⟨rfl,p,_,_,rfl,J,hp p<|.head _⟩ (λi loc st' hI=>by obtain⟨rfl,_⟩:=hI;simp only[nxt,ha]) (λi z loc st' hz hI=>?_) λloc st' hI=>?_
 .obtain⟨rfl,H,x,y,rfl,J,z0,U⟩:=hI
  have hi:i<(p::ps).length:=by have:=(aq hz).1;rwa [bA] at this
  have hn:(p::ps)[i]? =some (p::ps)[i]:=af hi;rw[fK hn] at hz;cases hz;rw[List.drop_eq_getElem_cons hi] at J;obtain⟨nn,hnn⟩:∃nn,nn=(p::ps)[i]:=⟨_,rfl⟩;rw[<-hnn] at J ⊢;obtain⟨y0,hy0⟩:=hp nn (by rw[hnn];exact getElem_mem hi)
  have J:(Dom.gR (rk O) N 1000 nn H).bind (λr'=>Dom.meet (rk O) N 1000 r'<|(p::ps).drop<|i+1)=some q:=J;obtain⟨r,hc1,J⟩:=bs J;refine aW<|aH rfl ?_;refine jM (λm loc s=>s=st'/\∃u w,loc=[rf a,rf b,rf c,nt ((w:Nat):Int),nt (nn:Int),nt ((u:Nat):Int)]/\Dom.gR (rk O) N m u w=some r/\(∃y,N u=some y)/\∃y,N w=some y) 1000 (by decide) ⟨rfl,nn,H,rfl,hc1,⟨y0,hy0⟩,⟨z0,U⟩⟩ λm loc s hI=>?_
  obtain⟨rfl,u,w,rfl,B,⟨yu,F⟩,⟨yw,I⟩⟩:=hI;refine bi<|aH rfl<|aH rfl<|yX ⟨_,rfl,λz=>?_,λz=>?_⟩
  .have hne:¬u=w:=λe=>by subst e;simp at z
   cases m with
   |zero=>cases B
   |succ m=>
    refine⟨m,rfl,?_⟩;unfold Dom.gR at B;rw[if_neg hne] at B;refine cr<|bi<|be<|aH rfl<|aH rfl<|eP hc (hR' u yu F)<|be<|aH rfl<|aH rfl<|eP hc (hR' w yw I)<|w_lt ⟨_,rfl,λz=>?_,λz=>?_⟩
    .have z:((rk O u:Nat):Int)<(rk O w:Nat):=of_decide_eq_true z;have z:rk O u<rk O w:=by omega
     rw[if_pos z,F] at B;have Z:u≠0∨u=0:=by omega
     refine aW<|be<|aH rfl<|aH rfl<|eP hb (hN.at F)<|aO<|a6<|aO<|bW ⟨rfl,yu,w,rfl,B,?_,⟨yw,I⟩⟩;rcases Z with Z|rfl
     .exact(K.up u yu Z F).2
     .rw[K.zero] at F;cases F;exact⟨0,K.zero⟩
    .have z:¬((rk O u:Nat):Int)<(rk O w:Nat):=of_decide_eq_false z;have z:¬rk O u<rk O w:=by omega
     rw[if_neg z,I] at B;have Y:w≠0∨w=0:=by omega
     refine aW<|be<|aH rfl<|aH rfl<|eP hb (hN.at I)<|aO<|a6<|aO<|bW ⟨rfl,u,yw,rfl,B,⟨yu,F⟩,?_⟩;rcases Y with Y|rfl
     .exact(K.up w yw Y I).2
     .rw[K.zero] at I;cases I;exact⟨0,K.zero⟩
  .have he:u=w:=by
    have:(u:Int)=w:=by simpa using z
    omega
   subst he
   have hr:r=u:=by
    cases m with
    |zero=>cases B
    |succ m=>unfold Dom.gR at B;rw[if_pos rfl] at B;exact(ak B).symm
   subst hr;exact aO<|bW ⟨rfl,r,_,_,rfl,J,⟨yu,F⟩⟩
 .obtain⟨rfl,H,x,y,rfl,J,z0,U⟩:=hI;rw[bA,drop_length] at J;have:H=q:=ak J;subst this;exact a6<|ba<|aH rfl<|bc h
end
theorem zi{a b:aU}(h:a.length<=b.length)(k:∀i,i<a.length->b[i]? =a[i]?):Gr a b:=by
 refine⟨b.drop a.length,List.ext_getElem? λi=>?_⟩;by_cases hi:i<a.length
 .rw[aB hi,k i hi]
 .rw[az (by omega),List.getElem?_drop]
  congr 1;omega
theorem Bu.gr2{a b:aU}(h:Bu n a b)(g:Gr s a)(c:s.length<=n):Gr s b:=
 zi (aM g.le h.le) λi hi=>by
  rw[h.same i (ao hi g.le) (by omega)]
  obtain⟨t,rfl⟩:=g;rw[aB hi]
noncomputable def Ak(o:Nat)(O:List Nat):List (Key×D):=(O.zipIdx o).map λp=>(.inl (p.1:Int),.int (p.2:Int))
noncomputable def qC(O:List Nat):List (Key×D):=Ak 0 O
theorem j1(o x:Nat)(O:List Nat):Ak o (x::O)=(.inl (x:Int),.int (o:Int))::Ak (o+1) O:=rfl
theorem uO:∀(o:Nat)(O:List Nat),su ((O.zipIdx o).map λp=>D.tup [.int (p.1:Int),.int (p.2:Int)])=some (Ak o O)
 |_,[]=>rfl
 |o,x::O=>by rw[j1,List.zipIdx_cons,map_cons];unfold su;rw[uO (o+1) O];rfl
theorem jB:∀(o:Nat)(O:List Nat),(Ak o O).map (·.1)=O.map λ(x:Nat)=>(Sum.inl (x:Int):Key)
 |_,[]=>rfl
 |o,x::O=>by rw[j1,map_cons,jB (o+1) O,map_cons]
theorem rE:∀(ps acc:List (Key×D)),((acc++ps).map (·.1)).Nodup->ps.foldl (λacc p=>bD acc p.1 p.2) acc=acc++ps
 |[],acc,_=>by rw[append_nil];rfl
 |p::ps,acc,h=>by
  rw[List.foldl_cons,pA]
  .have:=rE ps (acc++[(p.1,p.2)]) (by rw[append_assoc];exact h)
   rw[this,append_assoc];rfl
  .intro q c z;rw[map_append,nodup_append] at h;exact h.2.2 q.1 (List.mem_map_of_mem c) p.1 (by simp) z
theorem xE{O:List Nat}(nd:O.Nodup):rF (qC O)=qC O:=by
 have:=rE (qC O) [] (by rw[nil_append];unfold qC;rw[jB];exact Pairwise.map _ (λa b h z=>h<|ofNat_inj.mp<|Sum.inl.inj z) nd)
 exact this
theorem uN:∀(o:Nat)(O:List Nat) (x:Nat),bV (Ak o O) (.inl (x:Int))=if x∈O then some (.int ((o+O.idxOf x:Nat):Int)) else none
 |_,[],_=>rfl
 |o,y::O,x=>by
  rw[j1];unfold bV;by_cases h:y=x
  .subst h;rw[if_pos rfl,if_pos<|.head _];simp
  .rw[if_neg<|λz=>h<|ofNat_inj.mp<|Sum.inl.inj z,uN (o+1) O x]
   have e:(y::O).idxOf x=O.idxOf x+1:=by
    rw[idxOf_cons];have:(y==x)=false:=by simpa using h
    rw[this];rfl
   by_cases hx:x∈O
   .rw[if_pos hx,if_pos<|.tail _ hx,e];congr 3;omega
   .rw[if_neg hx,if_neg (λz=>by rcases mem_cons.mp z with z|z;exact h z.symm;exact hx z)]
theorem Aj(O:List Nat)(x:Nat):bV (qC O) (.inl (x:Int))=if x∈O then some (.int ((rk O x:Nat):Int)) else none:=by have:=uN 0 O x;rw[zero_add] at this;exact this
theorem CA{O:List Nat}(nd:O.Nodup):ND (qC O) λx=>if x∈O then some (rk O x) else none:=by
 refine⟨λx=>?_,?_,λp c=>?_⟩
 .rw[Aj];dsimp only;by_cases h:x∈O
  .rw[if_pos h,if_pos h];rfl
  .rw[if_neg h,if_neg h];rfl
 .rw[show(qC O).map (·.1)=O.map λ(x:Nat)=>(Sum.inl (x:Int):Key) from jB 0 O];exact Pairwise.map _ (λa b h z=>h<|ofNat_inj.mp<|Sum.inl.inj z) nd
 .have:p.1∈(qC O).map (·.1):=mem_map.mpr ⟨p,c,rfl⟩;rw[show(qC O).map (·.1)=O.map λ(x:Nat)=>(Sum.inl (x:Int):Key) from jB 0 O] at this;obtain⟨x,_,e⟩:=mem_map.mp this;exact⟨x,e.symm⟩
section
variable{g:eX}{loc:Loc}{st:aU}{Q:D->aU->Prop}{Ws:List (List Nat)}{O:List Nat}
theorem zC{o:Nat}(h1:loc[1]? =some (rf o))(ho:st[o]? =ls ((zs O).map .int))(nd:O.Nodup)(I:O.length<=1000)(h:∀m st1,Gr st st1->st.length<=m->st1[m]? =dt (qC O)->Q (.ref m) st1):
  W (run g (.bt .dict [.comp .en true (.v 1) (.c<|.non) false<|.tup [.v 1,.v 0]]) loc st) Q:=by
 refine bL<|ac<|bN<|aH h1 ⟨_,rfl,?_⟩;have H:bG (.en o) st=((zs O).map D.int).length:=by simp only[bG,ho]
 refine b5 (L:=dC 0<|(zs O).map .int) (by rw[H,bA];omega) (by rw[H,cW];exact aa _) (λi acc st1=>st1=st/\acc=(((O.zipIdx 0).map λp=>D.tup [.int (p.1:Int),.int (p.2:Int)])).take i) ⟨rfl,rfl⟩ (λi acc st1 F=>by obtain⟨rfl,_⟩:=F;simp only[nxt,ho,cJ,zero_add]) (λi z acc st1 B F=>?_) λacc st1 F=>?_
 .obtain⟨rfl,rfl⟩:=F;rw[cJ] at B;cases hx:O[i]? with
  |none=>
   have:((zs O).map D.int)[i]? =none:=a_ (by rw[bA];exact List.getElem?_eq_none_iff.mp hx)
   rw[this] at B;cases B
  |some x=>rw[fK hx] at B;have B:D.tup [.int ((0+i:Nat):Int),.int (x:Int)]=z:=ak B;rw[zero_add] at B;subst B;refine il<|bo<|ac<|aH rfl<|ac<|aH rfl<|am ⟨rfl,?_⟩;dsimp only;rw[take_add_one,aj,List.getElem?_zipIdx,hx];simp
 .obtain⟨rfl,rfl⟩:=F;rw[take_of_length_le (by simp[cW,zs])]
  refine am<|w_ aG (uO 0 O) ?_;rw[show rF (Ak 0 O)=qC O from xE nd];exact h _ _ ((Gr.one _ _).more _) (by simp) aG
theorem xl(l:List Nat):∃l':List Nat,Tab23.dX (zs l)=zs l'/\(∀x,x∈l'↔x∈l)/\l'.length=l.length:=by
 have z:∀x∈Tab23.dX (zs l),∃v∈l,(v:Int)=x:=λx c=>o4.mp<|(Tab23.dR _).mem_iff.mp c
 have e:zs ((Tab23.dX<|zs l).map toNat)=Tab23.dX (zs l):=by
  unfold zs;rw[map_map]
  conv=>rhs;rw[<-List.map_id<|Tab23.dX<|l.map λ(a:Nat)=>(a:Int)]
  refine List.map_congr_left λx c=>?_;obtain⟨v,_,rfl⟩:=z x c;simp
 refine⟨(Tab23.dX<|zs l).map toNat,e.symm,λx=>?_,?_⟩
 .have h1:(x:Int)∈zs ((Tab23.dX<|zs l).map toNat)↔x∈(Tab23.dX<|zs l).map toNat:=by rw[o4];exact⟨λ⟨v,hv,e⟩=>(ofNat_inj.mp e)▸hv,λh=>⟨x,h,rfl⟩⟩
  rw[<-h1,e,(Tab23.dR _).mem_iff,o4];exact⟨λ⟨v,hv,e⟩=>(ofNat_inj.mp e)▸hv,λh=>⟨x,h,rfl⟩⟩
 .rw[length_map,(Tab23.dR _).length_eq];simp[zs]
theorem rT{o bk:Nat}(h1:loc[1]? =some (rf o))(h2:loc[2]? =some (rf rn))(h3:loc[3]? =some (rf bk))(ho:st[o]? =ls ((zs O).map .int))(hr:st[rn]? =dt (qC O))(hB:cF st bk Bs)(nd:O.Nodup)(hl:O.length<=1000)
  (hBs:∀b∈O,b<Bs.length)(hB3:∀ws∈Bs,ws.length<=30)(hBm:∀v u:Nat,u∈wf Bs v↔v∈wf Ws u)
  (h:∀Ls m st1,Gr st st1->st.length<=m->cF st1 m Ls->LsOk Ws O Ls->Q (.ref m) st1):
  W (run g (.comp .seq false (.v 1) (.c<|.non) false<|.bt .sorted [.comp .seq false (.ix (.v 4)<|.v 0) (.cmp .In (.v 0)<|.v 4) true<|.ix (.v 4)<|.v 0]) loc st) Q:=by
 obtain⟨bs,b1,b2,b3⟩:=hB;refine bN<|aH h1 ⟨_,rfl,?_⟩;have hL:bG (.at o) st=((zs O).map D.int).length:=by simp only[bG,ho]
 refine b5 (L:=(zs O).map .int) (by rw[hL,bA];omega) (by rw[hL];exact aa _) (λi acc st1=>Gr st st1/\∃(rs:List Nat)(Ls:List (List Nat)),acc=rs.map .ref/\rs.length=i/\Ls.length=i/\(∀(j r:Nat)(ws:List Nat),rs[j]? =some r->Ls[j]? =some ws->st1[r]? =ls ((zs ws).map .int))/\(∀ws∈Ls,ws.length<=60)/\∀(j:Nat)(ws:List Nat) (b:Nat),Ls[j]? =some ws->O[j]? =some b->∀x,x∈ws↔∃p∈O,b∈wf Ws p/\O.idxOf p=x) ⟨.refl _,[],[],rfl,rfl,rfl,λj r ws a _=>by simp at a,(λws hw=>nomatch hw),λj ws b a _=>by simp at a⟩ (λi acc st1 F=>by obtain⟨g,_⟩:=F;simp only[nxt,g.at ho]) (λi z acc st1 hz F=>?_) λacc st1 F=>?_
 .obtain⟨U,rs,Ls,rfl,J,B,hat,hsz,hmm⟩:=F;obtain⟨b,hx,rfl⟩:=lX hz;have hbl:b<Bs.length:=hBs b<|ag hx;have hBb:Bs[b]? =some Bs[b]:=af hbl;have hbs:bs[b]? =some (bs[b]'(by omega)):=af (by omega)
  have Y:=b3 b _ _ hbs hBb;refine cz<|bL<|ac<|bN<|be<|aH (i:=4) h3<|aH rfl<|bI (U.at b1) (bK (by rw[aj,hbs];rfl)) ⟨_,rfl,?_⟩
  have hL2:bG (.at<|bs[b]'(by omega)) st1=((zs Bs[b]).map D.int).length:=by simp only[bG,U.at Y]
  have h30:=hB3 _ (getElem_mem hbl);refine b5 (L:=(zs Bs[b]).map .int) (by rw[hL2,bA];omega) (by rw[hL2];exact aa _) (λj acc s=>s=st1/\acc=(zs<|((Bs[b].take j).filter λu=>decide<|u∈O).map λu=>O.idxOf u).map .int) ⟨rfl,rfl⟩ (λj acc s F=>by obtain⟨rfl,_⟩:=F;simp only[nxt,U.at Y]) (λj z acc s hz F=>?_) λacc s F=>?_
  .obtain⟨rfl,rfl⟩:=F
   have hj:j<Bs[b].length:=by have:=(aq hz).1;rwa [bA] at this
   have hu:Bs[b][j]? =some Bs[b][j]:=af hj;rw[fK hu] at hz;cases hz;obtain⟨u,huu⟩:∃u,u=Bs[b][j]:=⟨_,rfl⟩;rw[<-huu] at hu ⊢;have tk:Bs[b].take (j+1)=Bs[b].take j++[u]:=by rw[take_add_one,hu];rfl
   refine iR<|bi<|aH rfl<|aH (i:=4) h2<|yY (U.at hr) rfl ⟨_,rfl,λz=>?_,λz=>?_⟩
   .have hv:=Aj O u
    have I:u∈O:=by
     by_cases I:u∈O
     .exact I
     .rw[hv,if_neg I] at z;cases z
    rw[if_pos I] at hv;refine be<|aH (i:=4) h2<|aH rfl<|eP (U.at hr) hv ⟨rfl,?_⟩;dsimp only;rw[tk,filter_append,map_append,eO,filter_cons_of_pos (by simpa using I)]
    rfl
   .have hv:=Aj O u;have I:u∉O:=λI=>by rw[hv,if_pos I] at z;cases z
    refine⟨rfl,?_⟩;dsimp only;rw[tk,filter_append,map_append,eO,filter_cons_of_neg (by simpa using I)]
    simp[zs]
  .obtain⟨rfl,rfl⟩:=F;rw[bA,take_length];obtain⟨l',e1,e2,e3⟩:=xl ((Bs[b].filter λu=>decide<|u∈O).map λu=>O.idxOf u)
   have hle:l'.length<=30:=by rw[e3,length_map];have:=length_filter_le (λu=>decide<|u∈O) Bs[b];omega
   refine am<|tL aG (by unfold zs;rw[length_map,<-e3];omega) ?_
   rw[e1];have g2:=(U.more<|.lst<|(zs<|(Bs[b].filter λu=>decide<|u∈O).map λu=>O.idxOf u).map D.int).more<|.lst<|(zs l').map D.int;refine⟨g2,rs++[(s++[Ev.O.lst<|(zs<|(Bs[b].filter λu=>decide<|u∈O).map λu=>O.idxOf u).map D.int]).length],Ls++[l'],by simp,by simp[J],by simp[B],λj r ws H Z=>?_,λws hw=>?_,λj ws b' H Z=>?_⟩
   .by_cases hj:j<rs.length
    .rw[aB hj] at H;rw[aB (by omega)] at Z
     exact aZ<|aZ<|hat j r ws H Z
    .have hj2:j=i:=by have:=(aq H).1;simp at this;omega
     subst hj2;rw[az (by omega),J,sub_self] at H
     rw[az (by omega),B,sub_self] at Z
     cases H;cases Z;exact aG
   .rcases mem_append.mp hw with hw|hw
    .exact hsz ws hw
    .rw[mem_singleton.mp hw];omega
   .by_cases hj:j<Ls.length
    .rw[aB hj] at H;exact hmm j ws b' H Z
    .have hj2:j=i:=by have:=(aq H).1;simp at this;omega
     subst hj2;rw[az (by omega),B,sub_self] at H
     cases H;rw[hx] at Z;cases Z;intro x;rw[e2,mem_map];constructor
     .rintro⟨u,hu,rfl⟩;rw[mem_filter] at hu;exact⟨u,by simpa using hu.2,(hBm b u).mp (by rw[eY hBb];exact hu.1),rfl⟩
     .rintro⟨p,hp,e,rfl⟩;refine⟨p,mem_filter.mpr ⟨?_,by simpa using hp⟩,rfl⟩
      have:=(hBm b p).mpr e;rw[eY hBb] at this;exact this
 .obtain⟨U,rs,Ls,rfl,J,B,hat,hsz,hmm⟩:=F;rw[bA] at J B;refine h Ls _ _ (U.more _) U.le ⟨rs,aG,by omega,λj r ws a c=>aZ<|hat j r ws a c⟩ ⟨B,hsz,λj b hb x=>?_⟩
  have hj:j<Ls.length:=by rw[B];exact(aq hb).1
  have e:Ls[j]? =some Ls[j]:=af hj;rw[eY e];exact hmm j _ b e hb x
end
section
variable{Ws:List (List Nat)}{O:List Nat}
noncomputable def cQ(O:List Nat):List Nat:=O.dropLast.reverse
theorem DH(h:(cQ O)[j]? =some b):j+1<O.length/\O[O.length - 2 - j]? =some b:=by
 have c:=(aq h).1;unfold cQ at h c;rw[length_reverse,length_dropLast] at c;refine⟨by omega,?_⟩
 rw[List.getElem?_reverse (by rw[length_dropLast];omega),length_dropLast,List.getElem?_dropLast] at h
 rw[if_pos (by omega)] at h
 rw[show O.length - 2 - j=O.length - 1 - 1 - j by omega]
 exact h
theorem kO:(cQ O).length=O.length - 1:=by unfold cQ;rw[length_reverse,length_dropLast]
theorem ez(I:Go.Inv (wf Ws) [] O){x:Nat}:x∈cQ O↔Dom.bE (Ed Ws) x/\x≠0:=by
 obtain⟨l,rfl⟩:=qj I;have nd:=tD I;rw[nodup_append] at nd;unfold cQ;rw[cK I,List.mem_reverse,List.dropLast_concat,mem_append,mem_singleton];constructor
 .intro h;exact⟨.inl h,λz=>nd.2.2 x h 0 (by simp) z⟩
 .rintro⟨h|h,c⟩
  .exact h
  .exact absurd h c
theorem rQ(I:Go.Inv (wf Ws) [] O):(cQ O).Pairwise λx y=>rk O y<rk O x:=by
 have nd:=tD I;unfold cQ;rw[List.pairwise_reverse,List.pairwise_iff_getElem];intro i j hi z c;rw[length_dropLast] at hi z;rw[List.getElem_dropLast,List.getElem_dropLast];show O.idxOf _<O.idxOf _;rw[nd.idxOf_getElem i (by omega),nd.idxOf_getElem j (by omega)]
 exact c
theorem zt(I:Go.Inv (wf Ws) [] O):(cQ O).Nodup:=(rQ I).imp λh z=>by rw[z] at h;exact a8 _ h
theorem Ap{q:Nat}(h:N b=some q):Dom.put N b q=N:=by
 funext x;unfold Dom.put;by_cases e:x=b
 .rw[if_pos e,e,h]
 .rw[if_neg e]
theorem ND.put(h:ND kv N)(b q:Nat):ND (bD kv (.inl (b:Int))<|.int (q:Int)) (Dom.put N b q):=by
 refine⟨λx=>?_,h.2.put b _⟩;rw[gH];unfold Dom.put;by_cases e:x=b
 .subst e;rw[if_pos rfl,if_pos rfl];rfl
 .rw[if_neg<|λz=>e (ofNat_inj.mp<|Sum.inl.inj z).symm,if_neg e];exact h.1 x
theorem Fa{q:Nat}(o:Option Nat):kY st ((o.map λ(y:Nat)=>D.int (y:Int)).getD .non) (.int (q:Int))=some (decide<|o=some q):=by
 cases o with
 |none=>simp[kY,nz]
 |some y=>
  have:decide ((y:Int)=q)=decide (some y=some q):=by
   by_cases h:y=q
   .subst h;simp
   .simp[h];omega
  simp only[Option.map_some,getD_some];rw[<-this];rfl
end
section
variable{k:Nat}{st:aU}{Q:Fl->aU->Prop}{Ws:List (List Nat)}{O:List Nat}{ss:List S}
structure Pa(O:List Nat)(Ls:List (List Nat))(N:Nat->Option Nat)(nd:Nat)(s0 st:aU)(L0 j:Nat)(c:Bool):Prop where
 bu:Bu nd s0 st
 at_:∃kv,st[nd]? =dt kv/\ND kv (Dom.go (dW O Ls) N<|(cQ O).take j)/\kv.length<=L0+j
 same:c=false->Dom.go (dW O Ls) N ((cQ O).take j)=N
 new:c=true->∃x∈(cQ O).take j,Dom.go (dW O Ls) N ((cQ O).take j) x≠N x
theorem Pa.same_{Ls:List (List Nat)}{st:aU}{q:Nat}{c:Bool}(h:Pa O Ls N nd s0 st L0 j c)(Y:(cQ O)[j]? =some b)(F:Gr st st')(J:nd<s0.length)(I:dW O Ls (Dom.go (dW O Ls) N<|(cQ O).take j) b=q)(e:Dom.go (dW O Ls) N ((cQ O).take j) b=some q):Pa O Ls N nd s0 st' L0 (j+1) c:=by
 have tk:(cQ O).take (j+1)=(cQ O).take j++[b]:=by rw[take_add_one,Y];rfl
 have B:Dom.go (dW O Ls) N ((cQ O).take<|j+1)=Dom.go (dW O Ls) N ((cQ O).take j):=by rw[tk,Dom.i7];show Dom.put _ b (dW O Ls _ b)=_;rw[I];exact Ap e
 obtain⟨kv,h1,h2,Z⟩:=h.at_;refine⟨h.bu.trans<|Bu.gr F,⟨kv,F.at h1,by rw[B];exact h2,by omega⟩,λz=>by rw[B];exact h.same z,λz=>?_⟩
 obtain⟨x,H,U⟩:=h.new z;exact⟨x,by rw[tk];exact aR _ H,by rw[B];exact U⟩
theorem Pa.put{Ls:List (List Nat)}{st:aU}{q:Nat}{c:Bool}(h:Pa O Ls N nd s0 st L0 j c)(I:Go.Inv (wf Ws) [] O)(J:(cQ O)[j]? =some b)(H:Gr st st')(F:nd<s0.length)(Z:dW O Ls (Dom.go (dW O Ls) N<|(cQ O).take j) b=q)(e:Dom.go (dW O Ls) N ((cQ O).take j) b≠some q)(hk:st[nd]? =dt kv):
  Pa O Ls N nd s0 (st'.set nd<|.dct<|bD kv (.inl (b:Int))<|.int (q:Int)) L0 (j+1) true:=by
 have tk:(cQ O).take (j+1)=(cQ O).take j++[b]:=by rw[take_add_one,J];rfl
 have U:Dom.go (dW O Ls) N ((cQ O).take<|j+1)=Dom.put (Dom.go (dW O Ls) N<|(cQ O).take j) b q:=by rw[tk,Dom.i7];show Dom.put _ b (dW O Ls _ b)=_;rw[Z]
 have B:b∉(cQ O).take j:=qR (zt I) J;obtain⟨Y,h1,h2,h3⟩:=h.at_;rw[hk] at h1;cases h1;have hl:=mq kv (.inl (b:Int))<|.int (q:Int);refine⟨(h.bu.trans<|Bu.gr H).set<|.inl rfl,⟨_,bB<|ao F (h.bu.trans<|Bu.gr (l:=nd) H).le,by rw[U];exact h2.put b q,by omega⟩,nofun,λ_=>⟨b,by rw[tk];simp,?_⟩⟩
 rw[U,Dom.fb,<-Dom.f_ (upd:=dW O Ls) (N:=N) B];exact λz=>e z.symm
theorem vO(I:Go.Inv (wf Ws) [] O){Ls:List (List Nat)}(L:LsOk Ws O Ls)(hO:O.length<=100)(K:Dom.Ok (Ed Ws) (rk O) N)(A:∀x,Dom.bE (Ed Ws) x->x∈cQ O∨∃y,N x=some y)(B:(cQ O)[j]? =some b):
  Dom.Ok (Ed Ws) (rk O) (Dom.go (dW O Ls) N<|(cQ O).take j)/\∃f∈pre O Ls b,∃y,Dom.go (dW O Ls) N ((cQ O).take j) f=some y:=by
 have U:=t7 I L hO;have up:=rQ I;have F:=(aq B).1;obtain⟨K1,A1⟩:=Dom.lM (wM I) U (l:=(cQ O).take j) (l2:=(cQ O).drop j) K (by rw[List.take_append_drop];exact up) (λx Z=>(ez I).mp<|List.mem_of_mem_take Z) (by rw[List.take_append_drop];exact A)
 refine⟨K1,?_⟩;obtain⟨Y,c⟩:=(ez I).mp<|ag B;obtain⟨f,e,J,hl⟩:=U.par b c Y;refine⟨f,(qI L<|(cK I).mp Y).mpr ⟨e,(cK I).mp J⟩,(A1 f J).resolve_left λz=>?_⟩;rw[List.drop_eq_getElem_cons F] at z;have H:(cQ O)[j]=b:=(aq B).2;rw[H] at z;rcases mem_cons.mp z with rfl|z
 .omega
 .have up2:((cQ O).drop j).Pairwise λx y=>rk O y<rk O x:=up.sublist<|List.drop_sublist _ _;rw[List.drop_eq_getElem_cons F,H] at up2;have:=(pairwise_cons.mp up2).1 f z;omega
theorem zE{o bk ld:Nat}{x y:Option D}{Ls:List (List Nat)}(I:Go.Inv (wf Ws) [] O)(L:LsOk Ws O Ls)(hO:O.length<=100)(ho:st[o]? =ls ((zs O).map .int))(hr:st[rn]? =dt (qC O))(hl:cF st ld Ls)(hd:st[nd]? =dt kv)(hrn:rn≠nd)(hN:ND kv N)(hk:kv.length<=900000)
  (K:Dom.Ok (Ed Ws) (rk O) N)(A:∀x,Dom.bE (Ed Ws) x->x∈cQ O∨∃y,N x=some y)
  (h:∀(c:Bool)(x y:Option D) st1,Pa O Ls N nd st st1 kv.length (cQ O).length c->W (execs (calls tab<|k+1) ss [rf w,rf o,rf rn,rf bk,rf ld,rf nd,some<|.bl c,x,y] st1) Q):
  W (execs (calls tab<|k+1) (vU::ss) [rf w,rf o,rf rn,rf bk,rf ld,rf nd,some<|.bl false,x,y] st) Q:=by
 unfold vU;obtain⟨ls0,hl0,hll,hlr⟩:=id hl;have hnd:nd<st.length:=(aq hd).1;have hpos:0<O.length:=by obtain⟨l,rfl⟩:=qj I;simp
 refine w9<|aY<|bL<|ac<|aH rfl<|am<|cU ho<|aV<|w_sub ⟨_,rfl,by rw[bA];omega,?_⟩
 rw[bA];have hn:((O.length:Int) - 2+1).toNat=(cQ O).length:=by rw[kO];omega
 rw[hn];have hLL:(eJ ((O.length:Int) - 2) (cQ O).length).length=(cQ O).length:=by simp[eJ]
 refine cj (L:=eJ ((O.length:Int) - 2) (cQ O).length) (aa _) (λj loc st'=>∃(c:Bool)(x y:Option D),loc=[rf w,rf o,rf rn,rf bk,rf ld,rf nd,some<|.bl c,x,y]/\Pa O Ls N nd st st' kv.length j c) ⟨false,x,y,rfl,⟨aa _,λ_ _ _=>rfl⟩,⟨kv,hd,by rw[take_zero];exact hN,aa _⟩,λ_=>by rw[take_zero];rfl,nofun⟩ (λ_ _ _ _=>rfl) (λj z loc st' hz Y=>?_) λloc st' Y=>?_
 .obtain⟨c,x,y,rfl,P⟩:=Y
  have hj:j<(cQ O).length:=by have:=(aq hz).1;rwa [hLL] at this
  have hz':(eJ ((O.length:Int) - 2) (cQ O).length)[j]? =nt ((O.length:Int) - 2 - (j:Int)):=by simp[eJ,hj]
  rw[hz'] at hz;cases hz;have F:(cQ O)[j]? =some (cQ O)[j]:=af hj;obtain⟨b,hb⟩:∃b,b=(cQ O)[j]:=⟨_,rfl⟩;rw[<-hb] at F;obtain⟨hj2,B⟩:=DH F;obtain⟨p,hp⟩:∃p,p=O.length - 2 - j:=⟨_,rfl⟩;rw[<-hp] at B;have hpi:(O.length:Int) - 2 - (j:Int)=(p:Int):=by omega
  rw[hpi];have nd':=tD I;have hib:O.idxOf b=p:=A7 nd' B;obtain⟨K1,hf⟩:=vO I L hO K A F;obtain⟨Nj,J⟩:∃Nj,Nj=Dom.go (dW O Ls) N ((cQ O).take j):=⟨_,rfl⟩;obtain⟨kv',k1,k2,k3⟩:=P.at_;rw[<-J] at K1 hf k2;obtain⟨p0,ps,q,u1,u2,u3,u4,u5⟩:=nI I hO K1 hf;have hpl:p<Ls.length:=by rw[L.ln];exact(aq B).1
  have hLp:Ls[p]? =some Ls[p]:=af hpl;have hls:ls0[p]? =some (ls0[p]'(by omega)):=af (by omega)
  have hatl:=hlr p _ _ hls hLp;have hne:∀{i:Nat}{xs:List D},st[i]? =ls xs->i≠nd:=λa z=>by rw[z,hd] at a;cases a
  have U:=P.bu.at ho (hne ho);have H:=P.bu.at hatl (hne hatl);have hr':=P.bu.at hr hrn;have hpre:pre O Ls b=Ls[p].map λx=>O.getD x 0:=by unfold pre;rw[hib,eY hLp]
  refine aW<|bC<|ac<|bN<|be<|aH rfl<|aH rfl<|bI (P.bu.at hl0<|hne hl0) (bK (by rw[aj,hls];rfl)) ⟨_,rfl,?_⟩
  have hL2:bG (.at<|ls0[p]'(by omega)) st'=((zs Ls[p]).map D.int).length:=by simp only[bG,H]
  have h60:=L.sz _ (getElem_mem hpl);refine b5 (L:=(zs Ls[p]).map .int) (by rw[hL2,bA];omega) (by rw[hL2];exact aa _) (λi acc s=>s=st'/\acc=(zs<|((Ls[p].take i).map λx=>O.getD x 0).filter λp=>(Nj p).isSome).map .int) ⟨rfl,rfl⟩ (λi acc s Y=>by obtain⟨rfl,_⟩:=Y;simp only[nxt,H]) (λi z acc s hz Y=>?_) λacc s Y=>?_
  .obtain⟨rfl,rfl⟩:=Y
   have hi:i<Ls[p].length:=by have:=(aq hz).1;rwa [bA] at this
   have hu:Ls[p][i]? =some Ls[p][i]:=af hi;rw[fK hu] at hz;cases hz;obtain⟨u,huu⟩:∃u,u=Ls[p][i]:=⟨_,rfl⟩;have hum:u∈wf Ls p:=by rw[eY hLp,huu];exact getElem_mem hi
   rw[<-huu] at hu ⊢;obtain⟨q',hq',_,eq'⟩:=(L.mem p b B u).mp hum;have hOu:O[u]? =some (O.getD u 0):=by rw[<-eq',kA hq'];exact qf hq'
   have tk:Ls[p].take (i+1)=Ls[p].take i++[u]:=by rw[take_add_one,hu];rfl
   have hv:=k2.1<|O.getD u 0;refine iR<|bi<|be<|aH rfl<|aH rfl<|bI U (bK<|fK hOu)<|aH rfl<|yY k1 rfl ⟨_,rfl,λz=>?_,λz=>?_⟩
   .have hm:(Nj<|O.getD u 0).isSome=true:=by rw[hv] at z;simpa using z
    refine be<|aH rfl<|aH rfl<|bI U (bK<|fK hOu) ⟨rfl,?_⟩;dsimp only;rw[tk,map_append,filter_append,eO,map_cons,map_nil,filter_cons_of_pos (p:=λp=>(Nj p).isSome) hm];rfl
   .have hm:¬(Nj<|O.getD u 0).isSome=true:=by rw[hv] at z;simpa using z
    refine⟨rfl,?_⟩;dsimp only;rw[tk,map_append,filter_append,eO,map_cons,map_nil,filter_cons_of_neg (p:=λp=>(Nj p).isSome) hm];simp[zs]
  .obtain⟨rfl,rfl⟩:=Y;rw[bA,take_length,<-hpre,u1];have Z:Gr s (s++[Ev.O.lst<|(zs<|p0::ps).map D.int]):= .one _ _;refine ac<|aH rfl<|ac<|aH rfl<|am ?_;refine uH K1 (λx y e=>(cK I).mp<|K1.dom x y e) aG (Z.at k1) (Z.at hr') k2 (CA<|tD I) (λx hx=>?_) u2 ?_
   .rw[<-u1,mem_filter,isSome_iff_exists] at hx;exact hx.2
   .refine cr<|bi<|xa<|aH rfl ⟨nd,_,rfl,Z.at k1,be<|aH rfl<|aH rfl<|bI (Z.at U) (bK<|fK B) ⟨_,_,Z.at k1,rfl,?_⟩⟩;rw[k2.1 b];refine aH rfl (jO (Fa<|Nj b) ⟨_,rfl,λz=>?_,λz=>?_⟩)
    .have hn:¬Nj b=some q:=by simpa using z
     refine eE<|aH rfl<|aH rfl<|be<|aH rfl<|aH rfl<|bI (Z.at U) (bK<|fK B)<|cy (Z.at k1) rfl (by omega) ?_
     exact aW<|aV<|aO<|a6<|aO<|bW ⟨true,_,_,rfl,P.put I F Z hnd (by rw[<-J];exact u3) (by rw[<-J];exact hn) k1⟩
    .have hn:Nj b=some q:=by simpa using z
     exact aO<|a6<|aO<|bW ⟨c,_,_,rfl,P.same_ (q:=q) F Z hnd (by rw[<-J];exact u3) (by rw[<-J];exact hn)⟩
 .obtain⟨c,x,y,rfl,P⟩:=Y;rw[hLL] at P;exact a6<|h c x y st' P
end
section
variable{k w:Nat}{st:aU}{Q:D->aU->Prop}{Ws:List (List Nat)}{O:List Nat}
def ms(O:List Nat)(N:Nat->Option Nat):Nat:=((cQ O).map λx=>rk O 0 - rk O ((N x).getD 0)).sum
theorem uh{f g:Nat->Nat}:∀{l:List Nat},(∀x∈l,f x<=g x)->(l.map f).sum<=(l.map g).sum
 |[],_=>aa _
 |a::l,h=>by have h1:=h a (.head _);have h2:=uh (l:=l) λx c=>h x<|.tail _ c;simp only[map_cons,sum_cons];omega
theorem ug{f g:Nat->Nat}:∀{l:List Nat},(∀x∈l,f x<=g x)->(∃x∈l,f x<g x)->(l.map f).sum<(l.map g).sum
 |[],_,⟨x,c,_⟩=>nomatch c
 |a::l,h,⟨x,c,hl⟩=>by
  have h1:=h a (.head _);have h2:=uh (l:=l) λx c=>h x<|.tail _ c;simp only[map_cons,sum_cons];rcases mem_cons.mp c with rfl|c
  .omega
  .have:=ug (l:=l) (λx c=>h x<|.tail _ c) ⟨x,c,hl⟩;omega
theorem qw{f:Nat->Nat}{m:Nat}:∀{l:List Nat},(∀x∈l,f x<=m)->(l.map f).sum<=m*l.length
 |[],_=>aa _
 |a::l,h=>by have h1:=h a (.head _);have h2:=qw (l:=l) λx c=>h x<|.tail _ c;simp only[map_cons,sum_cons,length_cons,Nat.mul_add];omega
theorem CZ(z:O.length<=60)(N:Nat->Option Nat):ms O N<=3600:=by
 have h0:rk O 0<=60:=by have:O.idxOf 0<=O.length:=List.idxOf_le_length;show O.idxOf 0<=60;omega
 have:=qw (l:=cQ O) (f:=λx=>rk O 0 - rk O ((N x).getD 0)) (m:=60) λx _=>by omega
 have c:(cQ O).length<=60:=by rw[kO];omega
 have:ms O N<=60*(cQ O).length:=this;omega
theorem CY(I:Go.Inv (wf Ws) [] O){P:Nat->Option Nat}(F:Dom.Fit (Ed Ws) (rk O) P)(T:Dom.Turn (Ed Ws) (rk O) P N)(h:∃x∈cQ O,N x≠P x):ms O N<ms O P:=by
 have R:=wM I
 have key:∀x∈cQ O,∃r q,P x=some r/\N x=some q/\rk O r<=rk O q/\(rk O r=rk O q->r=q)/\rk O q<=rk O 0:=λx c=>by obtain⟨cx,U⟩:=(ez I).mp c;obtain⟨r,Y⟩:=F.all x cx;obtain⟨q,B⟩:=T.all x cx;obtain⟨_,z,hz⟩:=T.ok.up x q U B;have:=Dom.rV R F T U Y B;exact⟨r,q,Y,B,this.1,this.2,R.top q<|T.ok.dom q z hz⟩
 unfold ms;refine ug (λx c=>?_) ?_
 .obtain⟨r,q,J,H,h1,h2,h3⟩:=key x c;rw[J,H];simp only[getD_some];omega
 .obtain⟨x,c,Z⟩:=h;refine⟨x,c,?_⟩;obtain⟨r,q,J,H,h1,h2,h3⟩:=key x c;rw[J,H] at Z ⊢;simp only[getD_some];have:rk O r≠rk O q:=λz=>Z (by rw[h2 z])
  omega
structure Nr(Ws:List (List Nat))(N:Nat->Option Nat):Prop where
 all:∀x,Dom.bE (Ed Ws) x->∃y,N x=some y
 zero:N 0=some 0
 dom:∀x y,N x=some y->Dom.bE (Ed Ws) x
 come:∀x y,N x=some y->Dom.bE (Ed Ws) y
 chain:∀b c,Dom.bE (Ed Ws) b->(Dom.Chain N b c↔Dom.c4 (Ed Ws) c b)
 off:∀x y,x≠0->N x=some y->¬Dom.c4 (Ed Ws) x y
theorem CS(I:Go.Inv (wf Ws) [] O)(F:Dom.Fit (Ed Ws) (rk O) N)(T:Dom.Turn (Ed Ws) (rk O) N N):Nr Ws N:=by
 have R:=wM I
 have H:∀x y,N x=some y->Dom.bE (Ed Ws) y:=λx y e=>by
  by_cases B:x=0
  .subst B;rw[F.ok.zero] at e;cases e;exact⟨_,.nil⟩
  .obtain⟨_,z,J⟩:=F.ok.up x y B e;exact F.ok.dom y z J
 refine⟨F.all,F.ok.zero,F.ok.dom,H,λb c U=>Dom.nL R F T U,λx y B e z=>?_⟩;have:=(((Dom.nL R F T<|H x y e).mpr z).le F.ok).1;have:=(F.ok.up x y B e).1;omega
theorem AN:ND [(.inl 0,.int 0)] Dom.fX:=by
 refine⟨λx=>?_,by simp,λp c=>⟨0,by rw[mem_singleton.mp c];rfl⟩⟩
 unfold bV;by_cases h:x=0
 .subst h;rfl
 .have:¬((Sum.inl 0:Key)=.inl (x:Int)):=λz=>h (ofNat_inj.mp<|Sum.inl.inj z).symm;rw[if_neg this];simp[bV,Dom.fX,h]
theorem sj(hW:cF st w Ws)(hn:0<Ws.length/\Ws.length<=9)(hw:∀v f,f∈wf Ws v->f<Ws.length)(h2:∀v,(wf Ws v).length<=2)
  (h:∀N kv m st1,Gr st st1->st.length<=m->st1[m]? =dt kv->ND kv N->Nr Ws N->Q (.ref m) st1):Wv (calls tab (k+2) i5 [.ref w] st) Q:=by
 walk_at "call0"
 refine aW<|bC<|ac<|aH rfl<|ac<|aV<|ac<|ql<|am<|uE (hW.gr<|.one _ _) hn hw h2 aG λO o s1 b1 I hO ho1 ho=>?_;have g1:Gr st s1:=b1.gr2 (.one _ _) (aa _);have nd':=tD I;have hlt:∀b∈O,b<Ws.length:=λb hb=>jI hn.1 hw<|(Go.re I).mp hb;refine aW<|zC rfl ho nd' (by omega) λrn s2 g2 hr1 hr=>?_
 refine aW<|bC<|ac<|aH rfl<|am<|uz (hW.gr<|g1.trans g2) hn.2 hw h2 λBs bk s3 Z hb1 hB hB1 hB2 hB3=>?_;refine aW<|rT (o:=o) (rn:=rn) (bk:=bk) (Ws:=Ws) rfl rfl rfl ((g2.trans Z).at ho) (Z.at hr) hB nd' (by omega) (λb hb=>by rw[hB1];exact hlt b hb) hB2 hB3 λLs ld H g4 hl1 hL L=>?_
 refine aW<|iS<|ac<|aV<|am ⟨⟨rfl,by decide⟩,aW<|aV ?_⟩
 have g5:Gr H (H++[Ev.O.dct [(.inl 0,.int 0)]]):= .one _ _;obtain⟨Y,B⟩:∃Y,Y=H++[Ev.O.dct [(.inl 0,.int 0)]]:=⟨_,rfl⟩;have J:Y[H.length]? =dt [(.inl 0,.int 0)]:=by rw[B];exact aG
 have ho5:Y[o]? =ls ((zs O).map .int):=by rw[B];exact(g2.trans<|Z.trans<|g4.trans g5).at ho
 have hr5:Y[rn]? =dt (qC O):=by rw[B];exact(Z.trans<|g4.trans g5).at hr
 have hl5:cF Y ld Ls:=by rw[B];exact hL.gr g5
 have gs:Gr st H:=g1.trans<|g2.trans<|Z.trans g4;have g05:Gr st Y:=by rw[B];exact gs.trans g5
 have hrn:rn≠H.length:=by have:=(aq<|(Z.trans g4).at hr).1;omega
 clear g5;show W (execs _ _ _<|H++[Ev.O.dct [(.inl 0,.int 0)]]) _;rw[<-B];have R:=wM I;have U:=t7 I L (by omega)
 have up:=rQ I
 have A0:∀x,Dom.bE (Ed Ws) x->x∈cQ O∨∃y,Dom.fX x=some y:=λx hx=>by
  by_cases z:x=0
  .subst z;exact .inr ⟨0,rfl⟩
  .exact .inl<|(ez I).mpr ⟨hx,z⟩
 refine jM (λm loc s=>∃(c:Bool)(x y:Option D)(kv:List (Key×D))(N:Nat->Option Nat),loc=[rf w,rf o,rf rn,rf bk,rf ld,rf H.length,some<|.bl c,x,y]/\Bu H.length Y s/\s[H.length]? =dt kv/\ND kv N/\kv.length<=1+60*(10000 - m)/\m<=10000/\(c=true->(N=Dom.fX/\m=10000)∨(Dom.Fit (Ed Ws) (rk O) N/\ms O N+1<=m))/\(c=false->Dom.Fit (Ed Ws) (rk O) N/\Dom.Turn (Ed Ws) (rk O) N N))
  10000 (by decide) ⟨true,_,_,_,Dom.fX,rfl,⟨aa _,λ_ _ _=>rfl⟩,J,AN,by simp,aa _,λ_=>.inl ⟨rfl,rfl⟩,nofun⟩ λm loc s hI=>?_
 obtain⟨c,x,y,kv,N,rfl,bu,hk,hN,hkl,hm,ht,hf⟩:=hI;have hneL:∀{i:Nat}{xs:List D},Y[i]? =ls xs->i≠H.length:=λa z=>by rw[z,J] at a;cases a
 refine aH rfl ⟨c,rfl,λz=>?_,λz=>?_⟩
 .have ht:=ht z;have hm1:1<=m:=by rcases ht with⟨_,e⟩|⟨_,e⟩<;>omega
  refine⟨m - 1,by omega,aW<|aV ?_⟩
  have K:Dom.Ok (Ed Ws) (rk O) N:=by
   rcases ht with⟨rfl,_⟩|⟨F,_⟩
   .exact Dom.mx
   .exact F.ok
  have A:∀x,Dom.bE (Ed Ws) x->x∈cQ O∨∃y,N x=some y:=by
   rcases ht with⟨rfl,_⟩|⟨F,_⟩
   .exact A0
   .exact λx hx=>.inr<|F.all x hx
  refine zE I L (by omega) (bu.at ho5<|hneL ho5) (bu.at hr5 hrn) (hl5.bu J bu) hk hrn hN (by omega) K A λc' x' y' s' P=>?_
  obtain⟨kv',k1,k2,k3⟩:=P.at_;have same:=P.same;have new:=P.new;rw[take_length] at k2 same new;rw[kO] at k3;refine aO<|bW ⟨c',x',y',kv',_,rfl,bu.trans P.bu,k1,k2,by omega,by omega,λzc=>?_,λzc=>?_⟩
  .rcases ht with⟨rfl,e⟩|⟨F,e⟩
   .have:=CZ hO<|Dom.go (dW O Ls) Dom.fX<|cQ O;exact .inr ⟨Dom.lh<|Dom.nM R U up λx=>ez I,by omega⟩
   .have T:=Dom.qp R F U up λx=>ez I;have:=CY I F T<|new zc;exact .inr ⟨Dom.t_ R F T U.par,by omega⟩
  .have eN:=same zc
   have F':Dom.Fit (Ed Ws) (rk O) N:=by
    rcases ht with⟨rfl,e⟩|⟨F,e⟩
    .have:=Dom.lh<|Dom.nM R U up λx=>ez I;rw[eN] at this;exact this
    .exact F
   have T:=Dom.qp R F' U up λx=>ez I;rw[eN] at T ⊢;exact⟨F',T⟩
 .obtain⟨F,T⟩:=hf z;exact ba<|aH rfl<|bc<|h N kv _ s (bu.gr2 g05 gs.le) gs.le hk hN<|CS I F T
end
section
variable{Ws:List (List Nat)}{O:List Nat}
theorem tK(I:Go.Inv (wf Ws) [] O):∀(k b:Nat),rk O 0 - rk O b<k->b∈O->∃l,Dom.Way (Ed Ws) l b/\∀x∈l,rk O b<=rk O x
 |0,b,h,_=>by omega
 |k+1,b,h,hb=>by
  by_cases hz:b=0
  .subst hz;exact⟨[0],.nil,λx c=>by rw[mem_singleton.mp c];exact aa _⟩
  .obtain⟨f,h1,h2,z⟩:=Go.lC I hb hz;have z:rk O b<rk O f:=z;have:rk O f<=rk O 0:=Go.lB I h2;obtain⟨l,w,B⟩:=tK I k f (by omega) h2
   refine⟨b::l,.cons w h1,λx c=>?_⟩;rcases mem_cons.mp c with rfl|c
   .exact aa _
   .have:=B x c;omega
theorem uK(I:Go.Inv (wf Ws) [] O){d:Nat}(z:Dom.bE (Ed Ws) b)(h:Dom.c4 (Ed Ws) d b):rk O b<=rk O d:=by obtain⟨l,w,c⟩:=tK I _ b (aJ _)<|(cK I).mp z;exact c d<|h l w
noncomputable def ov(Ws:List (List Nat))(x:Nat):List Nat:=al (λc=>Dom.c4 (Ed Ws) c x/\c≠x) Ws.length
noncomputable def cnt(Ws:List (List Nat))(x:Nat):Nat:=(ov Ws x).length
theorem BF{P:Nat->Prop}(B:P y)(F:y<n):(al P n).length=(al (λc=>P c/\c≠y) n).length+1:=by
 have:(al P n).Perm (y::al (λc=>P c/\c≠y) n):=(List.perm_ext_iff_of_nodup (zu _ _)<|nodup_cons.mpr ⟨λh=>(jf.mp h).2.2 rfl,zu _ _⟩).mpr λx=>by
  rw[jf,mem_cons,jf];by_cases e:x=y
  .subst e;exact⟨λ_=>.inl rfl,λ_=>⟨F,B⟩⟩
  .exact⟨λh=>.inr ⟨h.1,h.2,e⟩,λh=>h.elim (λz=>absurd z e) λz=>⟨z.1,z.2.1⟩⟩
 rw[this.length_eq,length_cons]
theorem wz:cnt Ws 0=0:=by
 unfold cnt ov
 have:al (λc=>Dom.c4 (Ed Ws) c 0/\c≠0) Ws.length=[]:=by rw[List.eq_nil_iff_forall_not_mem];intro x z;obtain⟨_,h1,h2⟩:=jf.mp z;exact h2<|mem_singleton.mp<|h1 [0] .nil
 rw[this];rfl
theorem wA(R:Nr Ws N){x:Nat}(H:x≠0)(e:N x=some y)(I:y<Ws.length):cnt Ws x=cnt Ws y+1:=by
 have F:=R.dom x y e;have B:=R.come x y e
 have key:∀c,(Dom.c4 (Ed Ws) c x/\c≠x)↔Dom.c4 (Ed Ws) c y:=λc=>by
  rw[<-R.chain x c F,<-R.chain y c B];constructor
  .rintro⟨t,J⟩;cases t with
   |self h=>exact absurd rfl J
   |step _ h t=>rw[e] at h;cases h;exact t
  .intro t;refine⟨.step H e t,λz=>?_⟩;subst z;exact R.off c y H e<|(R.chain y c B).mp t
 unfold cnt ov;rw[oW key,BF (P:=λc=>Dom.c4 (Ed Ws) c y) Dom.jZ I]
theorem yc(I:Go.Inv (wf Ws) [] O)(R:Nr Ws N){x:Nat}(F:x≠0)(e:N x=some y):rk O x<rk O y:=by
 have c:=R.dom x y e;have B:=R.come x y e;have H:Dom.c4 (Ed Ws) y x:=(R.chain x y c).mp<|.step F e<|.self (R.all y B).choose_spec;have h1:=uK I c H
 have J:rk O x≠rk O y:=λz=>by have:=Go.mH ((cK I).mp c) ((cK I).mp B) z;subst this;exact R.off x x F e Dom.jZ
 omega
theorem Al(I:Go.Inv (wf Ws) [] O):O.reverse=0::cQ O:=by obtain⟨l,rfl⟩:=qj I;unfold cQ;rw[List.reverse_append,List.dropLast_concat];rfl
noncomputable def nB(Ws:List (List Nat))(l:List Nat):List (Key×D):=l.map λ(x:Nat)=>((Sum.inl (x:Int):Key),D.int (cnt Ws x:Int))
theorem rM:∀{l:List Nat}{x:Nat},x∈l->bV (nB Ws l) (.inl (x:Int))=nt (cnt Ws x:Int)
 |y::l,x,h=>by
  unfold nB;rw[map_cons];unfold bV;by_cases e:y=x
  .subst e;rw[if_pos rfl]
  .rw[if_neg<|λz=>e<|ofNat_inj.mp<|Sum.inl.inj z];rcases mem_cons.mp h with z|h
   .exact absurd z.symm e
   .exact rM h
theorem yI{l:List Nat}{x:Nat}(h:x∉l):bD (nB Ws l) (.inl (x:Int)) (.int (cnt Ws x:Int))=nB Ws (l++[x]):=by
 rw[pA λp B z=>?_]
 .unfold nB;rw[map_append];rfl
 .obtain⟨y,c,rfl⟩:=mem_map.mp B;exact h<|ofNat_inj.mp (Sum.inl.inj z)▸c
end
section
variable{k r:Nat}{st:aU}{Q:D->aU->Prop}{G:List Bl}
abbrev wG(G:List Bl):List (List Nat):=G.map λB=>wy B.e
structure GOk(G:List Bl):Prop where
 n0:0<G.length
 n9:G.length<=9
 to:∀B∈G,∀a∈B.e.fol,a<G.length
 two:∀B∈G,B.e.fol.length<=2
theorem tJ:wf (wG G) v=((G[v]?).map λB=>wy B.e).getD []:=by unfold wf wG;rw[List.getElem?_map]
theorem zw{e:En}(h:e.fol.length<=2):(wy e).length<=2:=by
 unfold wy;split
 .rename_i a b _;split
  .simp
  .split<;>simp
 .exact h
theorem GOk.hw(g:GOk G):∀v f,f∈wf (wG G) v->f<(wG G).length:=λv f h=>by
 rw[tJ] at h;rw[length_map];cases q:G[v]? with
 |none=>rw[q] at h;cases h
 |some B=>rw[q] at h;exact g.to B (ag q) f<|tI.mp h
theorem GOk.h2(g:GOk G):∀v,(wf (wG G) v).length<=2:=λv=>by
 rw[tJ];cases q:G[v]? with
 |none=>exact zero_le _
 |some B=>exact zw<|g.two B<|ag q
theorem GOk.nn(g:GOk G):0<(wG G).length/\(wG G).length<=9:=by rw[length_map];exact⟨g.n0,g.n9⟩
theorem GOk.fit(g:GOk G):∀B∈G,∀a∈B.e.fol,a<10:=λB z a c=>by have:=g.to B z a c;have:=g.n9;omega
theorem uB(g:GOk G)(z:dj st r G)(h:∀O m st1,Gr st st1->Go.Inv (wf<|wG G) [] O->O.length<=60->st1[m]? =ls ((zs O.reverse).map .int)->Q (.ref m) st1):Wv (calls tab (k+4) kj [.ref r] st) Q:=by
 walk_at "call0"
 refine ba<|Ef<|bC<|ac<|bC<|ac<|aH rfl<|am<|uw g.n9 g.fit z λm Y H Z B=>?_;refine ac<|aV<|ac<|ql<|am<|uE (B.gr<|.one _ _) g.nn g.hw g.h2 aG λO o U J I F c ho=>?_;refine⟨o,_,rfl,ho,bc<|h O _ _ ((H.trans<|J.gr2 (.one _ _)<|aa _).more _) I F ?_⟩;rw[aG];simp only[zs,List.map_reverse]
theorem uG(g:GOk G)(hf:dj st r G)(h:∀O m st1,Gr st st1->st.length<=m->Go.Inv (wf<|wG G) [] O->O.length<=60->st1[m]? =dt (nB (wG G) O.reverse)->Q (.ref m) st1):Wv (calls tab (k+5) km [.ref r] st) Q:=by
 walk_at "call0"
 refine aW<|bC<|ac<|bC<|ac<|aH rfl<|am<|uw g.n9 g.fit hf λm s1 g1 hm hW=>?_;refine am<|sj hW g.nn g.hw g.h2 λN kv nd H g2 hnd hk hN R=>?_;refine aW<|iS<|ac<|aV<|am ⟨⟨rfl,by decide⟩,?_⟩
 refine dk<|bC<|ac<|aH rfl<|am<|uB g (hf.gr<|(g1.trans g2).more _) λO o s3 g3 I hO ho=>⟨_,rfl,?_⟩;have gs:Gr st H:=g1.trans g2;have U:s3[H.length]? =dt [(.inl 0,.int 0)]:=g3.at aG;have hk3:s3[nd]? =dt kv:=g3.at (aZ hk);have hon:o≠H.length:=λz=>by rw[z,U] at ho;cases ho
 have hnn:nd≠H.length:=aw (aq hk).1;have F:=Al I;have hL:bG (.at o) s3=((zs O.reverse).map D.int).length:=by simp only[bG,ho]
 refine cj (L:=(zs O.reverse).map .int) (by rw[hL];exact aa _) (λi loc s=>(∃x,loc=[rf r,rf nd,rf H.length,x])/\Bu H.length s3 s/\s[H.length]? =dt (nB (wG G)<|0::(cQ O).take (i - 1)))
  ⟨⟨_,rfl⟩,⟨aa _,λ_ _ _=>rfl⟩,by rw[U];simp only[nB,map_cons,take_zero,map_nil,wz];rfl⟩ (λi loc s Z=>by simp only[nxt,Z.2.1.at ho hon]) (λi z loc s J Z=>?_) λloc s Z=>?_
 .obtain⟨⟨x,rfl⟩,bu,hd⟩:=Z;obtain⟨v,B,rfl⟩:=lX J;rw[F] at B;refine cr (bi<|aH rfl<|aV<|yX ⟨_,rfl,λJ=>?_,λJ=>?_⟩)
  .have c:v≠0:=λe=>by subst e;simp at J
   obtain⟨j,rfl⟩:∃j,i=j+1:=by
    cases i with
    |zero=>cases B;exact absurd rfl c
    |succ j=>exact⟨j,rfl⟩
   rw[Nat.add_sub_cancel] at hd;have B:(cQ O)[j]? =some v:=by simpa using B
   have hvm:=ag B;have hcv:=((ez I).mp hvm).1;obtain⟨y,hy⟩:=R.all v hcv;have Y:=R.come v y hy;have hyl:y<(wG G).length:=jI g.nn.1 g.hw<|kJ.mp Y;have hlt:=yc I R c hy
   have hym:y∈0::(cQ O).take j:=by
    by_cases h0:y=0
    .rw[h0];exact .head _
    .refine mem_cons_of_mem _ ?_;have hyb:=(ez I).mpr ⟨Y,h0⟩;obtain⟨p,hp,ep⟩:=List.getElem_of_mem hyb;have up:=List.pairwise_iff_getElem.mp<|rQ I;have hj:=(aq B).1;have ej:=(aq B).2
     have hpj:p<j:=by
      rcases Nat.lt_trichotomy p j with z|z|z
      .exact z
      .subst z;rw[ep] at ej;subst ej;omega
      .have:=up j p hj hp z;rw[ep,ej] at this;omega
     rw[List.mem_take_iff_getElem];exact⟨p,by omega,ep⟩
   have hnv:v∉0::(cQ O).take j:=λz=>by
    rcases mem_cons.mp z with z|z
    .exact c z
    .exact qR (zt I) B z
   refine eE<|aY<|be<|aH rfl<|be<|aH rfl<|aH rfl<|eP (bu.at hk3 hnn) (hN.at hy)<|eP hd (rM hym)<|aV<|w_add<|aH rfl<|aH rfl<|cy hd rfl ?_ ?_
   .unfold nB;rw[length_map,length_cons,length_take];have:=kO (O:=O);omega
   .have hc:cnt (wG G) v=cnt (wG G) y+1:=wA R c hy hyl;rw[show((cnt (wG G) y:Int)+1)=(cnt (wG G) v:Int) by omega,yI hnv]
    refine aO<|a6<|aO<|bW ⟨⟨_,rfl⟩,bu.set<|.inl rfl,?_⟩;rw[bB (aq hd).1,Nat.add_sub_cancel,take_add_one,B];rfl
  .have c:v=0:=by
    have:decide ((v:Int)=0)=true:=by simpa using J
    have:=of_decide_eq_true this;omega
   subst c
   have hi0:i=0:=by
    cases i with
    |zero=>rfl
    |succ j=>
     exfalso;have B:(cQ O)[j]? =some 0:=by simpa using B
     exact((ez I).mp<|ag B).2 rfl
   subst hi0;exact aO<|a6<|aO<|bW ⟨⟨_,rfl⟩,bu,hd⟩
 .obtain⟨⟨x,rfl⟩,bu,hd⟩:=Z;refine a6<|ba<|aH rfl<|bc<|h O _ _ (bu.gr2 (gs.trans<|(Gr.one _ _).trans g3) gs.le) gs.le I hO ?_;have hb:=kO (O:=O);have J:((zs O.reverse).map D.int).length=O.length:=by rw[bA,length_reverse]
  rw[hd,J,F,take_of_length_le (by omega)]
end
section
variable{k n r:Nat}{st:aU}{Q:D->aU->Prop}{G:List Bl}
theorem fi{s:Src}{L:List D}{f:D->M (Option D)}(A:Nat->List D)(h0:A 0=[])(H:bG s st<=1000000)(J:L.length<=bG s st)(nx:∀i,nxt s i st=some L[i]?)
  (I:∀i x,L[i]? =some x->W (f x st) λo st1=>st1=st/\A (i+1)=match o with|some y=>A i++[y]|none=>A i)(h:Q (.ref st.length) (st++[.lst<|A L.length])):W (cY f s st) Q:=by
 refine b5 (L:=L) H J (λi acc z=>z=st/\acc=A i) ⟨rfl,h0.symm⟩ (λi acc z c=>by rw[c.1];exact nx i) (λi x acc z B c=>?_) λacc z c=>?_
 .obtain⟨rfl,rfl⟩:=c;refine(I i x B).mono λo st1 F=>?_;obtain⟨rfl,e⟩:=F;exact⟨rfl,by cases o<;>exact e.symm⟩
 .obtain⟨rfl,rfl⟩:=c;exact h
noncomputable def mC(G:List Bl):Int:=((G.filter λB=>B.e.call).length:Int)
noncomputable def zb(G:List Bl):Int:=(G.map λB=>B.e.wt).sum
noncomputable def mG(G:List Bl):Int:=(G.map λB=>(B.nr:Int)).sum+((G.drop 1).map λB=>(B.np:Int)).sum
noncomputable def k0(G:List Bl)(x:Nat):Int:=((G[x]?).map λB=>(B.nr:Int)).getD 0
noncomputable def mR(G:List Bl):Int:=((range G.length).map λx=>(cnt (wG G) x:Int)*k0 G x).sum
theorem wB(Ws:List (List Nat))(x:Nat):cnt Ws x<=Ws.length:=qg _ _
theorem pG(g:GOk G)(c:∀x,x<G.length->Dom.bE (Ed<|wG G) x){O:List Nat}(I:Go.Inv (wf<|wG G) [] O):O.reverse.Perm (range G.length):=by refine(List.reverse_perm O).trans<|(List.perm_ext_iff_of_nodup (tD I) nodup_range).mpr λx=>?_;rw[mem_range,<-cK I];refine⟨λh=>?_,c x⟩;have:=jI g.nn.1 g.hw<|kJ.mp h;rwa [length_map] at this
theorem nN{l m:List Int}(h:l.Perm m):l.sum=m.sum:=by
 induction h with
 |nil=>rfl
 |cons x _ ih=>simp[ih]
 |swap x y l=>simp only[sum_cons];omega
 |trans _ _ a b=>exact a.trans b
theorem m_{bs:List Nat}(H:gE st bs G)(z:(bs.map D.ref)[j]? =some x):∃b B,x=.ref b/\bs[j]? =some b/\G[j]? =some B/\kX st b B:=by
 rw[aj] at z;obtain⟨b,c,rfl⟩:=map_eq_some_iff.mp z;have F:j<G.length:=by rw[<-H.1];exact(aq c).1
 exact⟨b,_,rfl,c,af F,H.2 j b _ c<|af F⟩
def oZ(st:aU)(G:List Bl)(es:List Nat):Prop:=es.length=G.length/\∀(j n:Nat)(B:Bl),es[j]? =some n->G[j]? =some B->gD st n B.e
theorem oZ.ki{st:aU}{G:List Bl}{es:List Nat}(h:oZ st G es)(k:Ki st st'):oZ st' G es:=⟨h.1,λj n B a b=>(h.2 j n B a b).ki k⟩
theorem rH{st:aU}:∀{bs:List Nat}{G:List Bl},gE st bs G->∃es:List Nat,oZ st G es/\∀(j b:Nat),bs[j]? =some b->∃ps rs n,es[j]? =some n/\st[b]? =some (.ins "Block"<|nc (.tup ps) (.tup rs)<|.ref n)
 |[],[],h=>⟨[],⟨rfl,λ_ _ _ a=>by simp at a⟩,λ_ _ a=>by simp at a⟩
 |[],_::_,h=>by have:=h.1;simp at this
 |_::_,[],h=>by have:=h.1;simp at this
 |b::bs,B::G,h=>by
  obtain⟨es,h1,h2⟩:=rH (bs:=bs) (G:=G) ⟨by simpa using h.1,λj b e a c=>h.2 (j+1) b e (by simpa using a) (by simpa using c)⟩
  obtain⟨ps,rs,n,_,_,F,z⟩:=h.2 0 b B rfl rfl;refine⟨n::es,⟨by simp[h1.1],λj m C a c=>?_⟩,λj c a=>?_⟩
  .cases j with
   |zero=>cases a;cases c;exact z
   |succ j=>exact h1.2 j m C (by simpa using a) (by simpa using c)
  .cases j with
   |zero=>cases a;exact⟨ps,rs,n,rfl,F⟩
   |succ j=>obtain⟨p,q,m,x,y⟩:=h2 j c (by simpa using a);exact⟨p,q,m,by simpa using x,y⟩
theorem take_snoc{l:List α}{x:α}(h:l[i]? =some x):l.take (i+1)=l.take i++[x]:=by rw[take_add_one,h];rfl
theorem zH{rs:List D}{c:Int}(F: -18446744073709551616<c/\c<18446744073709551616)(h:Q (.int<|c*(rs.length:Int)) st):W (ret [] st) λds B=>W (dD .len (.tup rs::ds) B) λy z=>W (cB .mul (.int c) y z) Q:=by show W (dD .len [.tup rs] st) λy z=>W (cB .mul (.int c) y z) Q;refine gX ?_;exact w_mul (.inl F) h
noncomputable def mD(G:List Bl):D:= .tup [.int<|mC G,.int<|zb G,.int<|mG G,.int<|mR G]
theorem Cs(g:GOk G)(ha:∀x,x<G.length->Dom.bE (Ed<|wG G) x)(hf:dj st r G)(h:∀st1,Gr st st1->Q (mD G) st1):Wv (calls tab (k+6) mI [.ref r] st) Q:=by
 have hf':=hf;obtain⟨t,g0,x,y,bs,h1,h4⟩:=hf;obtain⟨es,hes,hbe⟩:=rH h4;have hbl:=h4.1;have h9:=g.n9;have H:=hes.1
 walk_at "call0"
 refine aW<|bN<|bh<|aH rfl<|zk h1 4 rfl ⟨_,rfl,?_⟩;refine fi (L:=bs.map .ref) (λi=>(es.take i).map .ref) (by simp) (by show(bs.map D.ref).length<=1000000;rw[length_map];omega) (aa _) (λ_=>rfl) (λi x F=>?_) ?_
 .obtain⟨b,B,rfl,hb,hB,_⟩:=m_ h4 F;obtain⟨ps,rs,n,e1,e2⟩:=hbe i b hb;refine cz<|bh<|aH rfl<|wS e2 2 rfl ⟨rfl,?_⟩;rw[take_snoc e1,map_append];rfl
 rw[length_map,hbl,<-H,take_length];have g1:Gr st (st++[O.lst<|es.map .ref]):= .one _ _;obtain⟨s1,hs1⟩:∃s1,s1=st++[O.lst<|es.map .ref]:=⟨_,rfl⟩;have hE:s1[st.length]? =ls (es.map .ref):=by rw[hs1];exact aG
 rw[<-hs1] at g1;show W (execs _ _ _<|st++[O.lst<|es.map .ref]) _;rw[<-hs1];have h41:=h4.ki<|yz g1;refine aW<|bL<|ac<|bN<|bh<|aH rfl<|zk (g1.at h1) 4 rfl ⟨_,rfl,?_⟩;refine fi (L:=bs.map .ref) (λi=>((G.take i).map λB=>(B.nr:Int)).map .int) (by simp) (by show(bs.map D.ref).length<=1000000;rw[length_map];omega) (aa _) (λ_=>rfl) (λi x F=>?_) ?_
 .obtain⟨b,B,rfl,hb,hB,ps,rs,n,_,e2,e3,_⟩:=m_ h41 F;refine cz<|bL<|ac<|bh<|aH rfl<|wS e3 1 rfl<|am<|gX ⟨rfl,?_⟩;rw[take_snoc hB,map_append,map_append,e2];rfl
 rw[length_map,hbl,take_length];refine am<|w_sum aG ?_;have g2:Gr s1 (s1++[O.lst<|(G.map λB=>(B.nr:Int)).map .int]):= .one _ _;obtain⟨s2,hs2⟩:∃s2,s2=s1++[O.lst<|(G.map λB=>(B.nr:Int)).map .int]:=⟨_,rfl⟩;rw[<-hs2] at g2;show W (execs _ _ _<|s1++[O.lst<|(G.map λB=>(B.nr:Int)).map .int]) _;rw[<-hs2];have g02:=g1.trans g2;have h42:=h4.ki<|yz g02
 have hcut:cutD (bs.map D.ref) (some 1) none=(bs.drop 1).map .ref:=by
  unfold cutD;rw[show(some 1:Option Int)=some ((1:Nat):Int) from rfl,HT.iu,HT.ir,length_map,min_eq_left (by have:=g.n0;omega),take_of_length_le (by simp),map_drop]
 refine aW<|bL<|ac<|bN<|jN<|bh<|aH rfl<|zk (g02.at h1) 4 rfl<|aV ⟨1,rfl,BW (λz=>?_) ⟨_,rfl,?_⟩⟩
 .rw[show(some 1:Option Int)=some ((1:Nat):Int) from rfl,HT.iu,length_map,min_eq_left (by have:=g.n0;omega)] at z
  exact absurd z.1 (by decide)
 rw[hcut];refine fi (L:=(bs.drop 1).map .ref) (λi=>(((G.drop 1).take i).map λB=>(B.np:Int)).map .int) (by simp) (by show((bs.drop 1).map D.ref).length<=1000000;rw[length_map,length_drop];omega) (aa _) (λ_=>rfl) (λi x F=>?_) ?_
 .rw[map_drop,List.getElem?_drop] at F;obtain⟨b,B,rfl,hb,hB,ps,rs,n,e2,_,e3,_⟩:=m_ h42 F;refine cz<|bL<|ac<|bh<|aH rfl<|wS e3 0 rfl<|am<|gX ⟨rfl,?_⟩;rw[take_snoc (x:=B) (by rw[List.getElem?_drop];exact hB),map_append,map_append,e2]
  rfl
 rw[length_map,length_drop,hbl,show G.length - 1=(G.drop 1).length by rw[length_drop],take_length]
 refine am<|w_sum aG ?_;obtain⟨s3,hs3⟩:∃s3,s3=s2++[O.lst<|((G.drop 1).map λB=>(B.np:Int)).map .int]:=⟨_,rfl⟩;have g3:Gr s2 s3:=by rw[hs3];exact .one _ _
 show W (execs _ _ _<|s2++[O.lst<|((G.drop 1).map λB=>(B.np:Int)).map .int]) _;rw[<-hs3];have g03:=g02.trans g3;refine aW<|bL<|ac<|xc<|bC<|ac<|aH rfl<|am<|uG g (hf'.gr g03) λO m J g4 hm I hO U=>?_;have g04:=g03.trans g4;have hml:m<J.length:=(aq U).1
 have ki4:Ki st (J.set m<|.dcf<|nB (wG G) O.reverse):=λi c fs e=>by
  have e':=g04.at e;rw[aD (λz=>by rw[<-z,U] at e';cases e')]
  exact e'
 have h44:=h4.ki ki4;have hop:=pG g ha I;refine⟨m,_,λi acc s=>s=J.set m (.dcf<|nB (wG G) O.reverse)/\acc=((O.reverse.take i).map λx=>(cnt (wG G) x:Int)*k0 G x).map .int,rfl,U,by unfold nB;rw[length_map,length_reverse];omega,⟨rfl,by simp⟩,λi acc s hI=>by rw[hI.1];exact bB hml,λi p acc s hp hI=>?_,λacc s hI=>?_⟩
 .obtain⟨rfl,rfl⟩:=hI;unfold nB at hp;rw[aj] at hp;obtain⟨v,hv,rfl⟩:=map_eq_some_iff.mp hp;have hvl:v<G.length:=mem_range.mp<|hop.mem_iff.mp<|ag hv;have hbs:bs[v]? =some bs[v]:=af (by omega)
  have hGv:G[v]? =some G[v]:=af hvl;obtain⟨ps,rs,n,_,e2,e3,_⟩:=h44.2 v _ _ hbs hGv;have hix:iM (bs.map D.ref) (v:Int)=some (.ref bs[v]):=bK (by rw[aj,hbs];rfl)
  have hcl:=wB (wG G) v;have hwl:(wG G).length<=9:=g.nn.2;have hbd:(-18446744073709551616:Int)<(cnt (wG G) v:Int)/\(cnt (wG G) v:Int)<18446744073709551616:=⟨by omega,by omega⟩
  generalize hs5:J.set m (.dcf<|nB (wG G) O.reverse)=Y at e3 ki4 ⊢;have h15:=ki4 _ _ _ h1;show W (run (calls tab<|k+5) _ (nt (v:Int)::nt (cnt (wG G) v:Int)::_) Y) _;refine aY<|aH rfl<|bL ?_;refine ac<|bh<|be<|bh<|aH rfl<|zk h15 4 rfl<|aH rfl<|dg hix ?_;refine wS e3 1 rfl ?_;rw[runs];generalize hcc:(cnt (wG G) v:Int)=c at hbd ⊢;refine zH hbd ?_
  refine⟨rfl,by
   rw[take_snoc hv,map_append,map_append,e2];have:k0 G v=(G[v].nr:Int):=by unfold k0;rw[hGv];rfl
   rw[map_cons,map_cons,this,hcc];rfl⟩
 obtain⟨rfl,rfl⟩:=hI
 have hfin:∀l:List D,((J.set m (Ev.O.dcf<|nB (wG G) O.reverse)++[Ev.O.lst l]).set m<|Ev.O.dct<|nB (wG G) O.reverse)=J++[Ev.O.lst l]:=λl=>by
  rw[bM _ _ (by rw[aA];exact hml),set_set]
  congr 1;refine List.ext_getElem? λi=>?_;by_cases e:m=i
  .subst e;rw[aK hml,U]
  .rw[aD e]
 have hlen:(nB (wG G) O.reverse).length=O.reverse.length:=by unfold nB;rw[length_map]
 rw[hfin,aA,hlen,take_length];refine am<|w_sum aG ?_;have g5:Gr J (J++[Ev.O.lst<|(O.reverse.map λx=>(cnt (wG G) x:Int)*k0 G x).map D.int]):= .one _ _;obtain⟨Y,hs5⟩:∃Y,Y=J++[Ev.O.lst<|(O.reverse.map λx=>(cnt (wG G) x:Int)*k0 G x).map D.int]:=⟨_,rfl⟩;rw[<-hs5] at g5;show W (execs _ _ _<|J++[Ev.O.lst<|(O.reverse.map λx=>(cnt (wG G) x:Int)*k0 G x).map D.int]) _;rw[<-hs5];have g05:=g04.trans g5;have hE5:Y[st.length]? =ls (es.map .ref):=(g2.trans<|g3.trans<|g4.trans g5).at hE;have Z:=hes.ki<|yz g05;have hL5:bG (.at st.length) Y=(es.map D.ref).length:=by simp only[bG,hE5]
 have end_at:∀{s:aU}{i:Nat}{x:D},oZ s G es->(es.map D.ref)[i]? =some x->∃n B,x=.ref n/\G[i]? =some B/\gD s n B.e:=λ{s i x} he F=>by
  rw[aj] at F;obtain⟨n,hn,rfl⟩:=map_eq_some_iff.mp F;have hi:i<G.length:=by rw[<-H];exact(aq hn).1
  exact⟨n,_,rfl,af hi,he.2 i n _ hn<|af hi⟩
 refine ba<|bo<|ac<|bL<|ac<|bN<|aH rfl ⟨_,rfl,?_⟩;obtain⟨cs,hcs⟩:∃cs:Nat->List D,cs=λi=>((es.take i).zip<|G.take i).filterMap λp=>if p.2.e.call then some (D.ref p.1) else none:=⟨_,rfl⟩
 have hcl:∀i,(cs i).length=((G.take i).filter λB=>B.e.call).length:=λi=>by
  subst hcs
  have:∀(a:List Nat)(b:List Bl),a.length=b.length->((a.zip b).filterMap λp=>if p.2.e.call then some (D.ref p.1) else none).length=(b.filter λB=>B.e.call).length:=by
   intro a
   induction a with
   |nil=>intro b hb;cases b with|nil=>rfl|cons=>cases hb
   |cons x a ih=>
    intro b hb;cases b with
    |nil=>cases hb
    |cons y b=>
     have:=ih b (by simpa using hb)
     rw[zip_cons_cons,filterMap_cons,List.filter_cons];cases y.e.call<;>simp[this]
  exact this _ _ (by simp[H])
 refine fi (L:=es.map .ref) cs (by subst hcs;rfl) (by rw[hL5,length_map];omega) (by rw[hL5];exact aa _) (λi=>by simp only[nxt,hE5]) (λi x F=>?_) ?_
 .obtain⟨n,B,rfl,hB,hn⟩:=end_at Z F
  have hex:es[i]? =some n:=by rw[aj] at F;obtain⟨n',hn',e⟩:=map_eq_some_iff.mp F;cases e;exact hn'
  have hz:(es.take i).length=(G.take i).length:=by simp[H]
  have hst:cs (i+1)=cs i++(if B.e.call then [D.ref n] else []):=by subst hcs;dsimp only;rw[take_snoc hex,take_snoc hB,List.zip_append hz,List.filterMap_append];cases hq:B.e.call<;>simp[hq]
  refine iR<|bC<|ac<|aH rfl<|am<|uD hn ⟨_,rfl,λz=>aH rfl ⟨rfl,?_⟩,λz=>⟨rfl,?_⟩⟩
  .rw[hst,z];rfl
  .rw[hst,z];simp
 refine am<|cU aG ?_;rw[hcl,length_map,H,take_length];obtain⟨s6,hs6⟩:∃s6,s6=Y++[Ev.O.lst<|cs (es.map D.ref).length]:=⟨_,rfl⟩;have g6:Gr Y s6:=by rw[hs6];exact .one _ _
 rw[length_map,H] at hs6;rw[<-hs6];have hE6:=g6.at hE5;have hes6:=Z.ki<|yz g6;have hL6:bG (.at st.length) s6=(es.map D.ref).length:=by simp only[bG,hE6]
 refine ac<|bL<|ac<|bN<|aH rfl ⟨_,rfl,?_⟩;refine fi (L:=es.map .ref) (λi=>((G.take i).map λB=>B.e.wt).map .int) (by simp) (by rw[hL6,length_map];omega) (by rw[hL6];exact aa _) (λi=>by simp only[nxt,hE6]) (λi x F=>?_) ?_
 .obtain⟨n,B,rfl,hB,hn⟩:=end_at hes6 F;refine cz<|bC<|ac<|aH rfl<|am<|uv hn ⟨rfl,?_⟩;rw[take_snoc hB,map_append,map_append];rfl
 rw[length_map,H,take_length];refine am<|w_sum aG<|ac<|aY<|aH rfl<|aH rfl<|w_add<|ac<|aH rfl<|am<|bc ?_;rw[nN<|hop.map _];exact h _<|(g05.trans g6).more _
end
structure GA(G:List Bl):Prop where
 ok:GOk G
 all:∀x,x<G.length->Dom.bE (Ed<|wG G) x
structure Fu where
 nm:Str
 f:Nat
 G:List Bl
noncomputable def nv(F:List Fu):List (Key×D):=F.map λp=>((Sum.inr p.nm:Key),D.ref p.f)
noncomputable def zo(a b:Nat):List (Str×D):=[("functions",.ref a),("kept_functions",.ref b)]
def dz(st:aU)(c:Nat)(F:List Fu):Prop:=∃a b,st[c]? =some (.ins "Code"<|zo a b)/\st[a]? =dt (nv F)/\st[b]? =dt (nv F)/\∀p∈F,dj st p.f p.G
structure FOk(F:List Fu):Prop where
 nd:(F.map (·.nm)).Nodup
 srt:PyProof.Rows.sortedS (Tab23.eB<|F.map (·.nm))=true
 few:F.length<=10
 ga:∀p∈F,GA p.G
theorem dz.gr{c:Nat}{F:List Fu}(h:dz st c F)(g:Gr st st'):dz st' c F:=by obtain⟨a,b,h1,h2,H,B⟩:=h;exact⟨a,b,g.at h1,g.at h2,g.at H,λp z=>(B p z).gr g⟩
theorem dz.bu{c:Nat}{F:List Fu}(h:dz st c F)(u:Bu l st st')(B:Lf st l):dz st' c F:=by
 obtain⟨a,b,h1,h2,H,J⟩:=h;have k:=u.ki B;obtain⟨ns,e⟩:=B;have ne:∀{i:Nat}{kv:List (Key×D)},st[i]? =dt kv->i≠l:=λq z=>by rw[z,e] at q;cases q
 exact⟨a,b,k _ _ _ h1,u.at h2<|ne h2,u.at H<|ne H,λp I=>(J p I).ki k⟩
theorem vC:∀{F:List Fu}{p:Fu},(F.map (·.nm)).Nodup->p∈F->bV (nv F) (.inr p.nm)=rf p.f
 |q::F,p,nd,h=>by
  unfold nv;rw[map_cons];unfold bV;rw[map_cons,nodup_cons] at nd;rcases mem_cons.mp h with rfl|h
  .rw[if_pos rfl]
  .rw[if_neg λz=>nd.1 (by rw[show q.nm=p.nm from Sum.inr.inj z];exact mem_map.mpr ⟨p,h,rfl⟩)]
   exact vC nd.2 h
theorem qY:∀F:List Fu,ji (nv F)=some (F.map (·.nm))
 |[]=>rfl
 |p::F=>by show(ji<|nv F).map (λns=>p.nm::ns)=_;rw[qY F];rfl
noncomputable def BP(F:List Fu)(n:Str):List Bl:=((F.find? λp=>p.nm==n).map (·.G)).getD []
theorem pX:∀{F:List Fu}{p:Fu},(F.map (·.nm)).Nodup->p∈F->BP F p.nm=p.G
 |q::F,p,nd,h=>by
  rw[map_cons,nodup_cons] at nd;unfold BP;rw[List.find?_cons];rcases mem_cons.mp h with rfl|h
  .simp
  .have:(q.nm==p.nm)=false:=by
    rw[beq_eq_false_iff_ne];exact λz=>nd.1 (by rw[z];exact mem_map.mpr ⟨p,h,rfl⟩)
   rw[this];exact pX nd.2 h
theorem zV{F:List Fu}(nd:(F.map (·.nm)).Nodup)(v:List Bl->Int):((Tab23.eB<|F.map (·.nm)).map λn=>v<|BP F n).sum=(F.map λp=>v p.G).sum:=by
 rw[nN<|(Tab23.e_ _).map _,map_map];congr 1
 exact List.map_congr_left λp c=>by show v (BP F p.nm)=v p.G;rw[pX nd c]
noncomputable def i4(a b c d:Int):List D:=[.int a,.int b,.int c,.int d]
noncomputable def mF(F:List Fu):D:= .tup<|i4 (F.map λp=>mC p.G).sum (F.map λp=>zb p.G).sum (F.map λp=>mG p.G).sum (F.map λp=>mR p.G).sum
section
variable{k n c:Nat}{st:aU}{Q:D->aU->Prop}{F:List Fu}
theorem Dm(z:st1[p]? =some (.ins "Code"<|zo a b))(i:Nat)(hi:(zo a b)[i]? =some (f,d))(q:P d)(B:(((zo a b).take i).map (·.1)).contains f=false:=by(simp only[zo,take_succ_cons,take_zero,map_cons,map_nil];decide+kernel)):
  ∃n c fs d,D.ref p=.ref n/\st1[n]? =some (.ins c fs)/\fs.lookup f=some d/\c∈(["Code"]:List Str)/\P d:=⟨p,"Code",_,d,rfl,z,lk i hi B,by decide+kernel,q⟩
theorem DX{m:Str}{ms:List (Str×Nat)}{P:Nat->Nat->Prop}(z:st1[p]? =some (.ins "Code"<|zo a b))(F:ms.lookup ("Code":Str)=some j)(q:P p j)(B:((zo a b).map (·.1)).contains m=false:=by(simp only[zo,map_cons,map_nil];decide+kernel)):
  ∃n c fs j,D.ref p=.ref n/\st1[n]? =some (.ins c fs)/\fs.lookup m=none/\ms.lookup c=some j/\P n j:=⟨p,"Code",_,j,rfl,z,my B,F,q⟩
theorem zL{H F B z y0 y1 y2 y3:Int}{s:Nat}{Y l2 l3 l4:Option D}{Q:Fl->aU->Prop}(hs:st[s]? =ls (i4 H F B z))(h:∀a b,Q (.nx [Y,rf s,l2,a,b])<|st.set s<|.lst<|i4 (H+y0) (F+y1) (B+y2)<|z+y3):
  W (fO (λx U=>bg (items? 2 x) λds=>execs g [.augx (.v 1) (.v 3)<|.v 4]<|iV [3,4] ds U) (.its<|dC 0<|i4 y0 y1 y2 y3) [Y,rf s,l2,l3,l4] st) Q:=by
 have Z:=(aq hs).1
 obtain⟨A,I⟩:∃A:Nat->List D,A=λi=>match i with
  |0=>i4 H F B z
  |1=>i4 (H+y0) F B z
  |2=>i4 (H+y0) (F+y1) B z
  |3=>i4 (H+y0) (F+y1) (B+y2) z
  |_=>i4 (H+y0) (F+y1) (B+y2) (z+y3):=⟨_,rfl⟩
 have hlen:(dC 0<|i4 y0 y1 y2 y3).length=4:=rfl;refine cj (L:=dC 0<|i4 y0 y1 y2 y3) (aa _) (λi loc J=>(∃a b,loc=[Y,rf s,l2,a,b])/\J=st.set s (.lst<|A i)) ⟨⟨_,_,rfl⟩,?_⟩ (λ_ _ _ _=>rfl) (λi x loc J c hI=>?_) λloc J hI=>?_
 .subst I;refine List.ext_getElem? λi=>?_;by_cases e:s=i
  .subst e;rw[aK Z,hs];rfl
  .rw[aD e]
 .obtain⟨⟨a,b,rfl⟩,rfl⟩:=hI;have hn:(st.set s<|.lst<|A i)[s]? =ls (A i):=bB Z
  have go:∀(j:Nat)(y m:Int),i=j->x=.tup [.int (j:Int),.int y]->(A i)[j]? =nt m->A (i+1)=(A i).set j (.int<|m+y)->W ((bg (items? 2 x) λds=>execs g [.augx (.v 1) (.v 3)<|.v 4]<|iV [3,4] ds [Y,rf s,l2,a,b])<|st.set s<|.lst<|A i) (Kf (λloc J=>(∃a b,loc=[Y,rf s,l2,a,b])/\J=st.set s (.lst<|A<|i+1)) Q):=by intro j y m hij c hm hA';subst c;refine aP (show W (.ok [D.int (j:Int),D.int y]<|st.set s<|.lst<|A i) _ from ?_);refine zQ<|aH rfl<|aH rfl ⟨s,j,_,m,y,rfl,rfl,hn,hm,aH rfl ⟨rfl,hn,aO<|bW ⟨⟨_,_,rfl⟩,?_⟩⟩⟩;rw[set_set,hA']
  match i,c with
  |0,c=>cases c;subst I;exact go 0 y0 H rfl rfl rfl rfl
  |1,c=>cases c;subst I;exact go 1 y1 F rfl rfl rfl rfl
  |2,c=>cases c;subst I;exact go 2 y2 B rfl rfl rfl rfl
  |3,c=>cases c;subst I;exact go 3 y3 z rfl rfl rfl rfl
  |i+4,c=>exact absurd (aq c).1 (by rw[hlen];omega)
 .obtain⟨⟨a,b,rfl⟩,rfl⟩:=hI;subst I;exact h a b
theorem lu(hF:FOk F)(hc:dz st c F)(h:∀st1,Gr st st1->Q (mF F) st1):Wv (calls tab (k+7) sS [.ref c] st) Q:=by
 have hc':=hc;obtain⟨a,b,h1,h2,h3,h4⟩:=hc;have hlen:(F.map (·.nm)).length<64:=by rw[length_map];have:=hF.few;omega
 walk_at "call0"
 refine aW<|bw<|ac<|aV<|ac<|aV<|ac<|aV<|ac<|aV<|am ?_;obtain⟨J,hs1⟩:∃J,J=st++[O.lst<|i4 0 0 0 0]:=⟨_,rfl⟩;have g1:Gr st J:=by rw[hs1];exact .one _ _
 show W (execs _ _ _<|st++[O.lst<|i4 0 0 0 0]) _;rw[<-hs1];have hS:J[st.length]? =ls (i4 0 0 0 0):=by rw[hs1];exact aG
 refine dk<|iQ<|aH rfl<|DX (g1.at h1) rfl<|am ?_
 walk_at "call0"
 refine ba<|bL<|ac<|bh<|aH rfl<|Dm (g1.at h1) 1 rfl<|am<|rS (g1.at h3) (qY F) hlen hF.srt<|bc ⟨_,rfl,?_⟩;obtain⟨s2,hs2⟩:∃s2,s2=J++[O.lst<|(Tab23.eB<|F.map (·.nm)).map .str]:=⟨_,rfl⟩;have g2:Gr J s2:=by rw[hs2];exact .one _ _
 rw[<-hs2];have hN:s2[J.length]? =ls ((Tab23.eB<|F.map (·.nm)).map .str):=by rw[hs2];exact aG
 have hS2:=g2.at hS;have hne:J.length≠st.length:=by have:=(aq hS).1;omega
 have g12:=g1.trans g2;have hL:bG (.at J.length) s2=((Tab23.eB<|F.map (·.nm)).map D.str).length:=by simp only[bG,hN]
 generalize hns:Tab23.eB (F.map (·.nm))=ns at hN hL
 have hmem:∀x∈ns,∃p∈F,p.nm=x:=λx Y=>by rw[<-hns] at Y;exact mem_map.mp<|(Tab23.e_ _).mem_iff.mp Y
 obtain⟨I,Z⟩:∃I:(List Bl->Int)->Nat->Int,I=λv i=>((ns.take i).map λn=>v<|BP F n).sum:=⟨_,rfl⟩
 have U:∀(v:List Bl->Int)(i:Nat) (x:Str),ns[i]? =some x->I v (i+1)=I v i+v (BP F x):=λv i x Y=>by subst Z;dsimp only;rw[take_snoc Y,map_append,sum_append];simp
 refine cj (L:=ns.map .str) (by rw[hL];exact aa _) (λi loc s=>(∃x y z,loc=[rf c,rf st.length,x,y,z])/\Bu st.length s2 s/\s[st.length]? =ls (i4 (I mC i) (I zb i) (I mG i)<|I mR i))
  ⟨⟨_,_,_,rfl⟩,⟨aa _,λ_ _ _=>rfl⟩,by rw[hS2];subst Z;rfl⟩ (λi loc s hI=>by simp only[nxt,hI.2.1.at hN hne]) (λi x loc s Y hI=>?_) λloc s hI=>?_
 .obtain⟨⟨x',y,z,rfl⟩,bu,hs⟩:=hI;rw[aj] at Y;obtain⟨nm,H,rfl⟩:=map_eq_some_iff.mp Y;obtain⟨p,hp,rfl⟩:=hmem nm<|ag H;have gs:Gr st s:=bu.gr2 g12<|aa _;refine jz (bC<|ac<|iQ<|aH rfl<|DX (gs.at h1) rfl<|ac<|aH rfl<|am ?_)
  walk_at "call0"
  refine ba<|be<|bh<|aH rfl<|Dm (gs.at h1) 1 rfl<|aH rfl<|c5 (gs.at h3) (vC hF.nd hp)<|bc ?_;have ga:=hF.ga p hp;refine am<|Cs ga.ok ga.all ((h4 p hp).gr gs) λs3 g3=>⟨_,rfl,?_⟩;refine zL (y0:=mC p.G) (y1:=zb p.G) (y2:=mG p.G) (y3:=mR p.G) (g3.at hs) λa b=>a6<|aO<|bW ⟨⟨_,_,_,rfl⟩,(bu.trans<|.gr g3).set<|.inl rfl,?_⟩;rw[bB (aq<|g3.at hs).1,U _ _ _ H,U _ _ _ H,U _ _ _ H,U _ _ _ H,pX hF.nd hp]
 .obtain⟨⟨x',y,z,rfl⟩,bu,hs⟩:=hI;have gs:Gr st s:=bu.gr2 g12<|aa _;refine a6 (ba<|bL<|ac<|aH rfl<|am<|nD hs<|bc ?_)
  have B:∀v,I v (ns.map D.str).length=(F.map λp=>v p.G).sum:=λv=>by subst Z;dsimp only;rw[length_map,take_length,<-hns];exact zV hF.nd v
  rw[B,B,B,B];exact h _ gs
end
inductive Av(ways:Nat->List Nat)(X:List Nat):Nat->Prop where
 |zero (h:0∉X):Av ways X 0
 |next {f v:Nat}(c:Av ways X f)(h:v∈ways f)(hx:v∉X):Av ways X v
def rest(Ts:List (List Nat))(F:List Nat):Nat:=(((range Ts.length).filter λv=>decide<|v∉F).map λv=>(wf Ts v).length+1).sum
structure Ci(Ts:List (List Nat))(X F L:List Nat):Prop where
 nd:F.Nodup
 av:∀v∈F,Av (wf Ts) X v
 ld:∀v∈L,v=0∨∃f∈F,v∈wf Ts f
 cl:∀f∈F,∀v∈wf Ts f,v∈F∨v∈X∨v∈L
 zr:0∈F∨0∈X∨0∈L
theorem Ci.av_l(h:Ci Ts X F L)(z:v∈L)(c:v∉X):Av (wf Ts) X v:=by
 rcases h.ld v z with rfl|⟨f,hf,e⟩
 .exact .zero c
 .exact .next (h.av f hf) e c
theorem Ci.out(h:Ci Ts X F (L++[v]))(c:v∈F∨v∈X):Ci Ts X F L:=by
 have H:∀{x},x∈L++[v]->x∈L∨x=v:=λ{x} B=>by simpa using B
 refine⟨h.nd,h.av,λx B=>h.ld x<|aR _ B,λf I x B=>?_,?_⟩
 .rcases h.cl f I x B with z|z|z
  .exact .inl z
  .exact .inr<|.inl z
  .rcases H z with z|rfl
   .exact .inr<|.inr z
   .rcases c with c|c
    .exact .inl c
    .exact .inr<|.inl c
 .rcases h.zr with z|z|z
  .exact .inl z
  .exact .inr<|.inl z
  .rcases H z with z|z
   .exact .inr<|.inr z
   .rcases c with c|c
    .exact .inl<|z▸c
    .exact .inr<|.inl<|z▸c
theorem Ci.push(h:Ci Ts X F (L++[v]))(J:v∉F)(H:v∉X):Ci Ts X (F++[v]) (L++wf Ts v):=by
 have I:∀{x},x∈L++[v]->x∈L∨x=v:=λ{x} H=>by simpa using H
 refine⟨?_,λx c=>?_,λx c=>?_,λf B x c=>?_,?_⟩
 .rw[nodup_append];refine⟨h.nd,by simp,λa Y b U=>?_⟩
  rw[mem_singleton.mp U];exact λz=>J<|z▸Y
 .rcases mem_append.mp c with z|z
  .exact h.av x z
  .rw[mem_singleton.mp z];exact h.av_l (by simp) H
 .rcases mem_append.mp c with z|z
  .rcases h.ld x (aR _ z) with e|⟨f,B,e⟩
   .exact .inl e
   .exact .inr ⟨f,aR _ B,e⟩
  .exact .inr ⟨v,by simp,z⟩
 .rcases mem_append.mp B with z|z
  .rcases h.cl f z x c with y|y|y
   .exact .inl<|aR _ y
   .exact .inr<|.inl y
   .rcases I y with y|rfl
    .exact .inr<|.inr<|aR _ y
    .exact .inl (by simp)
  .rw[mem_singleton.mp z] at c;exact .inr<|.inr<|aS _ c
 .rcases h.zr with z|z|z
  .exact .inl<|aR _ z
  .exact .inr<|.inl z
  .rcases I z with z|z
   .exact .inr<|.inr<|aR _ z
   .exact .inl (by simp[z])
theorem Ci.fin(h:Ci Ts X F [])(v:Nat):v∈F↔Av (wf Ts) X v:=by
 refine⟨h.av v,λa=>?_⟩
 induction a with
 |zero hx=>
  rcases h.zr with z|z|z
  .exact z
  .exact absurd z hx
  .cases z
 |next c hv hx ih=>
  rcases h.cl _ ih _ hv with z|z|z
  .exact z
  .exact absurd z hx
  .cases z
theorem uQ(z:v<Ts.length)(B:v∉F):rest Ts F=rest Ts (F++[v])+((wf Ts v).length+1):=by
 unfold rest;refine Go.me (w:=λv=>(wf Ts v).length+1) (f:=v) (p:=λv=>decide<|v∉F) (q:=λx=>decide<|x∉F++[v]) (by simpa using B) (by simp) (λx c=>?_) nodup_range<|mem_range.mpr z
 simp[c]
theorem uP(Ts:List (List Nat))(c:Ts.length<=9)(h2:∀v,(wf Ts v).length<=2):rest Ts []<=27:=by
 unfold rest;have a:=zW (f:=λv=>(wf Ts v).length+1) (λv=>by have:=h2 v;omega)<|(range Ts.length).filter λv=>decide<|v∉([]:List Nat)
 have b:=length_filter_le (λv=>decide<|v∉([]:List Nat))<|range Ts.length;rw[length_range] at b;omega
def kU(st:aU)(en:Nat)(Ts:List (List Nat)):Prop:=∃(ws:List D)(rs:List Nat),st[en]? =ls ((ws.zip rs).map λp=>.tup [p.1,.ref p.2])/\ws.length=Ts.length/\rs.length=Ts.length/\∀(j r:Nat)(ts:List Nat),rs[j]? =some r->Ts[j]? =some ts->st[r]? =ls ((zs ts).map .int)
theorem kU.gr{en:Nat}(h:kU st en Ts)(g:Gr st st'):kU st' en Ts:=by obtain⟨ws,rs,h1,h2,z,c⟩:=h;exact⟨ws,rs,g.at h1,h2,z,λj r ts a b=>g.at<|c j r ts a b⟩
theorem kU.at_{en:Nat}(h:kU st en Ts)(B:v<Ts.length):∃xs w r,st[en]? =ls xs/\xs[v]? =some (.tup [w,.ref r])/\st[r]? =ls ((zs<|wf Ts v).map .int):=by
 obtain⟨ws,rs,h1,h2,I,F⟩:=h;have H:ws[v]? =some (ws[v]'(by omega)):=af (by omega)
 have z:rs[v]? =some (rs[v]'(by omega)):=af (by omega)
 have c:Ts[v]? =some Ts[v]:=af B;refine⟨_,_,_,h1,by rw[aj,show(ws.zip rs)[v]? =some (_,_) from List.getElem?_zip_eq_some.mpr ⟨H,z⟩];rfl,?_⟩
 rw[eY c];exact F v _ _ z c
theorem kU.len{en:Nat}(h:kU st en Ts):∃xs,st[en]? =ls xs/\xs.length=Ts.length:=by
 obtain⟨ws,rs,h1,h2,c,z⟩:=h;exact⟨_,h1,by simp[h2,c]⟩
section
variable{r en:Nat}{st:aU}{Ts:List (List Nat)}
theorem zl{st:aU}{x:Nat}:kY st (.int (x:Int)) (.int (y:Int))=some (decide<|x=y):=by have:kY st (.int (x:Int)) (.int (y:Int))=some (decide<|(x:Int)=y):=rfl;rw[this];congr 1;exact decide_eq_decide.mpr ofNat_inj
theorem zB{o x:Nat}{a b c d:Option D}(hg:0<Ts.length/\Ts.length<=9)(fl:∀v f,f∈wf Ts v->f<Ts.length)(h2:∀v,(wf Ts v).length<=2)(he:kU st en Ts)
  (h:∀F m l c st1,Gr st st1->st.length<=m->F.Nodup->(∀v,v∈F↔Av (wf Ts) [x] v)->st1[m]? =ls ((zs F).map .int)->W (execs g ss [rf en,rf o,nt (x:Int),rf m,rf l,c,d] st1) Q):
  W (execs g (.set 3 (.lst []):: .set 4 (.lst [.c<|.int<|0])::vS::ss) [rf en,rf o,nt (x:Int),a,b,c,d] st) Q:=by
 unfold vS;refine aW<|bw<|am<|aW<|bw<|ac<|aV<|am ?_;have e1:(st++[O.lst []]).length=st.length+1:=by simp
 rw[e1];have g0:Gr st (st++[O.lst []]++[O.lst [.int 0]]):=(Gr.one _ _).more _;have hr0:=uP Ts hg.2 h2
 refine jM (λm loc st'=>∃F L l a,loc=[rf en,rf o,nt (x:Int),rf st.length,rf l,a,d]/\Ci Ts [x] F L/\Gr st st'/\st'[st.length]? =ls ((zs F).map .int)/\st'[l]? =ls ((zs L).map .int)/\st.length<l/\rest Ts F+L.length<=m/\F.length+rest Ts F<=27/\m<=28) 28 (by decide)
  ⟨[],[0],st.length+1,c,rfl,⟨.nil,(λv hv=>nomatch hv),λv hv=>.inl<|mem_singleton.mp hv,(λf hf=>nomatch hf),.inr<|.inr (by simp)⟩,g0,by rw[append_assoc,az<|aa _,sub_self];rfl,by rw[<-e1];exact aG,by omega,by simp;omega,by simp;omega,aa _⟩ λm loc st' hI=>?_
 obtain⟨F,L,l,a,rfl,C,g1,hF,hL,hlt,hm,hs,hm2⟩:=hI;have lF:st.length<st'.length:=(aq hF).1;have lL:l<st'.length:=(aq hL).1;refine bi<|aH rfl<|bw<|am<|jO (jc (aZ hL) aG) ⟨_,rfl,λz=>?_,λz=>?_⟩
 .have hne:L≠[]:=λe=>by subst e;cases z
  obtain⟨H,v,rfl⟩:∃H v,L=H++[v]:=⟨L.dropLast,L.getLast hne,(List.dropLast_concat_getLast hne).symm⟩;rw[aE] at hm;simp only[length_cons,length_nil] at hm;refine⟨m - 1,by omega,?_⟩
  have hL2:(st'++[O.lst []])[l]? =ls ((zs H).map .int++[.int (v:Int)]):=by rw[aZ hL,eO];rfl
  refine aW<|tN<|aH rfl ⟨l,_,_,rfl,hL2,?_⟩;have g2:Gr st ((st'++[O.lst []]).set l<|.lst<|(zs H).map .int):=(g1.more _).set (by omega)
  have B:((st'++[O.lst []]).set l<|.lst<|(zs H).map .int)[st.length]? =ls ((zs F).map .int):=sn (aZ hF) (by omega)
  have J:((st'++[O.lst []]).set l<|.lst<|(zs H).map .int)[l]? =ls ((zs H).map .int):=bB (by simp;omega)
  obtain⟨I,hs1⟩:∃I,I=(st'++[O.lst []]).set l (.lst<|(zs H).map .int):=⟨_,rfl⟩;rw[<-hs1] at g2 B J ⊢
  have Y:v<Ts.length:=by
   rcases C.ld v (by simp) with rfl|⟨f,_,e⟩
   .exact hg.1
   .exact fl f v e
  have skip:v∈F∨v∈[x]->W (execs g [] [rf en,rf o,nt (x:Int),rf st.length,rf l,nt (v:Int),d] I) (Kn g []<|Kf (λloc st'=>∃F L l a,loc=[rf en,rf o,nt (x:Int),rf st.length,rf l,a,d]/\Ci Ts [x] F L/\Gr st st'/\st'[st.length]? =ls ((zs F).map .int)/\st'[l]? =ls ((zs L).map .int)/\st.length<l/\rest Ts F+L.length<=m - 1/\F.length+rest Ts F<=27/\m - 1<=28)<|Kn g ss Q):=λhv=>
   aO (a6<|aO<|bW ⟨F,H,l,_,rfl,C.out hv,g2,B,J,hlt,by omega,hs,by omega⟩)
  refine cr<|w_and<|bi<|aH rfl<|aH rfl<|jO zl ⟨_,rfl,λz=>?_,λz=>?_⟩
  .have hvX:v∉[x]:=by simpa using z
   refine bi<|aH rfl<|aH rfl<|nF B (nj F) ⟨_,rfl,λz=>?_,λz=>?_⟩
   .have Z:v∉F:=by simpa using z
    have hra:=uQ Y Z;refine dJ<|aH rfl<|ce B<|aH rfl<|bU B (by rw[bA];omega) ?_
    have hL3:(I.set st.length<|.lst<|(zs F).map D.int++[.int (v:Int)])[l]? =ls ((zs H).map .int):=sn J (by omega)
    have U:(I.set st.length<|.lst<|(zs F).map D.int++[.int (v:Int)])[st.length]? =ls ((zs F).map D.int++[.int (v:Int)]):=bB (aq B).1;have g3:Gr st (I.set st.length<|.lst<|(zs F).map D.int++[.int (v:Int)]):=g2.set<|aa _;obtain⟨s2,hs2⟩:∃s2,s2=I.set st.length (.lst<|(zs F).map D.int++[.int (v:Int)]):=⟨_,rfl⟩;rw[<-hs2] at hL3 U g3 ⊢;have ls2:st.length<s2.length:=(aq U).1;obtain⟨xs,w,r,q1,q2,q3⟩:=(he.gr g3).at_ Y;have hv2:=h2 v;refine aW<|aY<|aH rfl<|be<|be<|aH rfl<|aH rfl<|bI q1 (bK q2)<|aV<|dg rfl<|jQ hL3 q3 ?_ ?_
    .rw[bA,bA];omega
    refine aO<|a6<|aO<|bW ⟨F++[v],H++wf Ts v,s2.length,_,rfl,C.push Z hvX,g3.more _,?_,?_,ls2,?_,?_,by omega⟩
    .rw[eO];exact aZ U
    .rw[eO];exact aG
    .rw[aE];omega
    .rw[aE];simp only[length_cons,length_nil];omega
   .exact skip<|.inl (by simpa using z)
  .exact⟨_,rfl,λz=>(nomatch z),λ_=>skip<|.inr (by simpa using z)⟩
 .have hnil:L=[]:=by
   cases L with
   |nil=>rfl
   |cons x L=>cases z
  subst hnil;exact h F _ _ _ _ (g1.more _) (aa _) C.nd C.fin<|aZ hF
end
def Po(Ts:List (List Nat))(x w:Nat):Prop:=¬Av (wf Ts) [w] x/\x≠w
theorem wI{P:Nat->Prop}(h:P i):al P (i+1)=al P i++[i]:=by unfold al;rw[range_succ,filter_append];simp[h]
theorem BG{P:Nat->Prop}(h:¬P i):al P (i+1)=al P i:=by unfold al;rw[range_succ,filter_append];simp[h]
theorem zx{x:Nat}(c:v<Bs.length):wf (Bs.set v ws) x=if x=v then ws else wf Bs x:=by
 unfold wf;by_cases e:x=v
 .subst e;rw[aK c,if_pos rfl];rfl
 .rw[aD<|λz=>e z.symm,if_neg e]
section
variable{k r en:Nat}{st:aU}{Ts:List (List Nat)}{Q:D->aU->Prop}
theorem Ab{c:Ex}(F:st[en]? =ls xs)(Y:xs.length<=9)(h:∀b rs st1,Gr st st1->Ls st st1 b rs (replicate xs.length [])->b<st1.length->st.length<=b->Q (.ref b) st1):W (cY (eF (run g c) (run g<|.lst []) false false loc) (.at en) st) Q:=by
 have H:bG (.at en) st=xs.length:=by simp only[bG,F]
 refine b5 (L:=xs) (by rw[H];omega) (by rw[H];exact aa _) (λi acc st1=>Gr st st1/\∃rs:List Nat,acc=rs.map .ref/\rs.length=i/\rs.Nodup/\(∀r∈rs,st.length<=r/\r<st1.length)/\∀r∈rs,st1[r]? =ls []) ⟨.refl _,[],rfl,rfl,.nil,(λr z=>nomatch z),λr z=>nomatch z⟩ (λi acc U B=>by simp only[nxt,B.1.at F]) (λi x acc st1 F B=>?_) λacc st1 B=>?_
 .obtain⟨g,rs,rfl,hi,nd,h1,h2⟩:=B;have Z:=g.le;refine cz (bw<|am ⟨g.more _,rs++[st1.length],by simp,by simp[hi],?_,λr z=>?_,λr z=>?_⟩)
  .rw[nodup_append];refine⟨nd,by simp,λa J b I=>?_⟩
   rw[mem_singleton.mp I];have:=h1 a J;omega
  .rw[aE];rcases mem_append.mp z with z|z
   .have:=h1 r z;simp only[length_cons,length_nil];omega
   .rw[mem_singleton.mp z];simp only[length_cons,length_nil];omega
  .rcases mem_append.mp z with z|z
   .exact aZ<|h2 r z
   .rw[mem_singleton.mp z];exact aG
 .obtain⟨g,rs,rfl,hi,nd,h1,h2⟩:=B
  exact h st1.length rs _ (g.more _) ⟨aG,by simp[hi],nd,h1,λj r ws a c=>by
   rw[List.getElem?_replicate] at c;split at c
   .cases c;exact aZ (h2 r<|ag a)
   .cases c⟩ (by simp) g.le
theorem uC(hg:0<Ts.length/\Ts.length<=9)(fl:∀v f,f∈wf Ts v->f<Ts.length)(h2:∀v,(wf Ts v).length<=2)(he:kU st en Ts)
  (h:∀m Os rs st1,Gr st st1->st.length<=m->Ls st st1 m rs Os->Os.length=Ts.length->(∀x,x<Ts.length->wf Os x=al (Po Ts x) Ts.length)->Q (.ref m) st1):Wv (calls tab (k+1) ow [.ref en] st) Q:=by
 obtain⟨xs,hxs,hxl⟩:=he.len
 walk_at "call0"
 refine aW<|bN<|aH rfl ⟨_,rfl,Ab hxs (by omega) λb rs s1 g1 L1 hb1 hb2=>?_⟩
 rw[hxl] at L1;refine dk<|bL<|ac<|aH rfl<|am<|cU (g1.at hxs) ⟨_,bS (by omega),?_⟩
 rw[toNat_natCast,hxl]
 refine cj (L:=bx Ts.length) (aa _) (λi loc s=>(∃a b' c d e,loc=[rf en,rf b,a,b',c,d,e])/\Gr st s/\b<s.length/\∃Bs,Ls st s b rs Bs/\Bs.length=Ts.length/\∀x,x<Ts.length->wf Bs x=al (Po Ts x) i)
  ⟨⟨_,_,_,_,_,rfl⟩,g1,hb1,_,L1,by simp,λx Y=>by unfold wf;rw[List.getElem?_replicate,if_pos Y];rfl⟩ (λ_ _ _ _=>rfl) (λi z loc s hz hI=>?_) λloc s hI=>?_
 .obtain⟨⟨a,b',c,d,e,rfl⟩,Z,H,Bs,I,B,U⟩:=hI;obtain⟨hi,rfl⟩:=fk hz;refine zB hg fl h2 (he.gr Z) λF m l c st1 g2 hm nd hF J=>?_;have hbm:b≠m:=by omega
  refine dk<|bL<|ac<|aH rfl<|am<|cU ((Z.trans g2).at hxs) ⟨_,bS (by omega),?_⟩
  rw[toNat_natCast,hxl]
  refine cj (L:=bx Ts.length) (aa _) (λj loc s=>(∃c e,loc=[rf en,rf b,nt (i:Int),rf m,rf l,c,e])/\Gr st s/\b<s.length/\s[m]? =ls ((zs F).map .int)/\∃Bs,Ls st s b rs Bs/\Bs.length=Ts.length/\∀x,x<Ts.length->wf Bs x=al (Po Ts x) (if x<j then i+1 else i))
   ⟨⟨_,_,rfl⟩,Z.trans g2,ao H g2.le,J,Bs,I.gr g2,B,λx Y=>by rw[if_neg<|not_lt_zero _];exact U x Y⟩ (λ_ _ _ _=>rfl) (λj z loc s hz hI=>?_) λloc s hI=>?_
  .obtain⟨⟨c,e,rfl⟩,Z,H,J,Bs,I,B,U⟩:=hI;obtain⟨hj,rfl⟩:=fk hz
   have skip:¬Po Ts j i->W (execs (calls tab k) [] [rf en,rf b,nt (i:Int),rf m,rf l,c,nt (j:Int)] s) (Kn (calls tab k) []<|Kf (λloc s=>(∃c e,loc=[rf en,rf b,nt (i:Int),rf m,rf l,c,e])/\Gr st s/\b<s.length/\s[m]? =ls ((zs F).map .int)/\∃Bs,Ls st s b rs Bs/\Bs.length=Ts.length/\∀x,x<Ts.length->wf Bs x=al (Po Ts x) (if x<j+1 then i+1 else i))<|Kn (calls tab k) []<|Kf (λloc s=>(∃a b' c d e,loc=[rf en,rf b,a,b',c,d,e])/\Gr st s/\b<s.length/\∃Bs,Ls st s b rs Bs/\Bs.length=Ts.length/\∀x,x<Ts.length->wf Bs x=al (Po Ts x) (i+1))<|Kn (calls tab k) [.ret<|.v 1]<|Kr Q):=λhp=>
    aO (a6 (aO (bW ⟨⟨_,_,rfl⟩,Z,H,J,Bs,I,B,λx Y=>by
     rw[U x Y];by_cases e:x=j
     .subst e;rw[if_neg<|a8 _,if_pos<|aJ _,BG hp]
     .by_cases e2:x<j
      .rw[if_pos e2,if_pos (by omega)]
      .rw[if_neg e2,if_neg (by omega)]⟩)))
   refine cr<|w_and<|bi<|aH rfl<|aH rfl<|nF J (nj F) ⟨_,rfl,λz=>?_,λz=>?_⟩
   .have hj1:¬Av (wf Ts) [i] j:=λq=>by have:=(hF j).mpr q;simp[this] at z
    refine bi<|aH rfl<|aH rfl<|jO zl ⟨_,rfl,λz=>?_,λz=>?_⟩
    .have hji:j≠i:=by simpa using z
     have hrj:rs[j]? =some (rs[j]'(by have:=I.ln;omega)):=af (by have:=I.ln;omega)
     have hBj:Bs[j]? =some (Bs[j]'(by omega)):=af (by omega)
     have hat:=I.at_ j _ _ hrj hBj;have hw:=U j hj;rw[if_neg<|a8 _,eY hBj] at hw;rw[hw] at hat;have hab:=I.ab _<|ag hrj;have hal:=qg (Po Ts j) i;refine dJ<|be<|aH rfl<|aH rfl<|bI I.hd (bK (by rw[aj,hrj];rfl))<|ce hat<|aH rfl<|bU hat (by rw[bA];omega) ?_
     refine aO<|a6<|aO<|bW ⟨⟨_,_,rfl⟩,Z.set hab.1,by rw[aA];exact H,sn J (by omega),Bs.set j<|al (Po Ts j)<|i+1,?_,by rw[aA];exact B,λx Y=>?_⟩
     .have:=I.put (ws:=al (Po Ts j)<|i+1) hrj;rw[wI (P:=Po Ts j) ⟨hj1,hji⟩,eO] at this;rw[wI (P:=Po Ts j) ⟨hj1,hji⟩];exact this
     .rw[zx (by omega),U x Y]
      by_cases e:x=j
      .subst e;rw[if_pos rfl,if_pos<|aJ _]
      .rw[if_neg e];by_cases e2:x<j
       .rw[if_pos e2,if_pos (by omega)]
       .rw[if_neg e2,if_neg (by omega)]
    .exact skip λq=>q.2 (by simpa using z)
   .have hj1:Av (wf Ts) [i] j:=(hF j).mp (by simpa using z)
    exact⟨_,rfl,λz=>(nomatch z),λ_=>skip λq=>q.1 hj1⟩
  .obtain⟨⟨c,e,rfl⟩,Z,H,J,Bs,I,B,U⟩:=hI;rw[bp] at U;exact a6<|aO<|bW ⟨⟨_,_,_,_,_,rfl⟩,Z,H,Bs,I,B,λx Y=>by rw[U x Y,if_pos Y]⟩
 .obtain⟨⟨a,b',c,d,e,rfl⟩,Z,H,Bs,I,B,U⟩:=hI;rw[bp] at U;exact a6<|ba<|aH rfl<|bc<|h b Bs rs s Z hb2 I B U
end
section
variable{G:List Bl}
noncomputable abbrev tG(G:List Bl):List (List Nat):=G.map λB=>B.e.fol
theorem rJ:Ed (wG G) a b↔b∈wf (tG G) a:=by
 show b∈wf (wG G) a↔_;rw[tJ];unfold wf tG;rw[aj];cases G[a]? with
 |none=>exact Iff.rfl
 |some B=>exact tI
theorem BE{c:Nat}:Av (wf<|tG G) [c] v↔∃l,Dom.Way (Ed<|wG G) l v/\c∉l:=by
 constructor
 .intro h
  induction h with
  |zero h=>exact⟨[0],.nil,λz=>h (by rw[mem_singleton.mp z];simp)⟩
  |next c' h hx ih=>
   obtain⟨l,w,B⟩:=ih
   exact⟨_,.cons w<|rJ.mpr h,λz=>by
    rcases mem_cons.mp z with z|z
    .exact hx (by rw[z];simp)
    .exact B z⟩
 .rintro⟨l,w,B⟩
  induction w with
  |nil=>exact .zero λz=>B (by rw[mem_singleton.mp z];simp)
  |cons w e ih=>exact .next (ih λz=>B<|.tail _ z) (rJ.mp e) λz=>B (by rw[mem_singleton.mp z];simp)
theorem CG(x:Nat):al (Po (tG G) x) (tG G).length=ov (wG G) x:=by
 unfold ov;rw[show(tG G).length=(wG G).length by rw[length_map,length_map]]
 refine oW λc=>?_;unfold Po;rw[BE];refine and_congr ⟨λh l w=>?_,λh ⟨l,w,z⟩=>z<|h l w⟩ ne_comm;by_cases z:c∈l
 .exact z
 .exact absurd ⟨l,w,z⟩ h
theorem GOk.ht(g:GOk G):∀v f,f∈wf (tG G) v->f<(tG G).length:=λv f h=>by have:=g.hw v f<|rJ.mpr h;rwa [length_map] at this ⊢
theorem GOk.t2(g:GOk G):∀v,(wf (tG G) v).length<=2:=λv=>by
 unfold wf tG;rw[aj];cases q:G[v]? with
 |none=>exact zero_le _
 |some B=>exact g.two B<|ag q
theorem GOk.tn(g:GOk G):0<(tG G).length/\(tG G).length<=9:=by rw[length_map];exact⟨g.n0,g.n9⟩
end
section
variable{k:Nat}{st:aU}{Q:D->aU->Prop}{e:En}
theorem Fi:iM (x::xs) 0=some x:=bK (xs:=x::xs) (i:=0) rfl
theorem so(h:∀st1,Gr st st1->Q (.int e.wt) st1):Wv (calls tab (k+1) eS [e.tl] st) Q:=by
 have c:∀{t:Str}{xs:List D}{v:Int},(t==("risk":Str))=false->e.tl=.tup (.str t::xs)->(bV [((Sum.inr "jump":Key),D.int 1),(.inr "branch",.int 2)]<|.inr t).getD (.int 0)=.int v->(∀st1,Gr st st1->Q (.int v) st1)->Wv (calls tab (k+1) eS [e.tl] st) Q:=λ{t xs v} ht B F h=>by
  rw[B]
  walk_at "call0"
  refine cr<|bi<|be<|aH rfl<|aV<|dg Fi<|aV<|w_eq eq_str ⟨_,rfl,λz=>?_,λ_=>aO<|a6 ?_⟩
  .rw[ht] at z;cases z
  refine ba<|zN<|iS<|ac<|aV<|ac<|aV<|am ⟨⟨rfl,by decide+kernel⟩,?_⟩
  refine⟨_,_,rfl,aG,be<|aH rfl<|aV<|dg Fi<|aV ⟨_,_,aG,rfl,bc ?_⟩⟩;show Q ((bV [((Sum.inr "jump":Key),D.int 1),(.inr "branch",.int 2)]<|.inr t).getD<|.int 0) _;rw[F];exact h _<|.one _ _
 cases e with
 |rk op ex z a x cs=>
  show Wv (calls tab (k+1) eS [.tup [.str "risk",.str op,ex,z,ed a x,.tup<|cs.map cD]] st) Q
  walk_at "call0"
  refine cr<|bi<|be<|aH rfl<|aV<|dg rfl<|aV<|w_eq eq_str ⟨_,rfl,λ_=>?_,λz=>?_⟩
  .refine ba<|aY<|aV<|bL<|ac<|be<|aH rfl<|aV<|dg rfl<|am<|gX<|w_add<|ff<|bc ?_;rw[length_map];exact h _<|.refl _
  .cases z
 |bk o=>exact c (t:= "back") (by decide+kernel) rfl rfl h
 |rs o=>exact c (t:= "raise") (by decide+kernel) rfl rfl h
 |jp a x=>exact c (t:= "jump") (by decide+kernel) rfl rfl h
 |br t a x b y=>exact c (t:= "branch") (by decide+kernel) rfl rfl h
end
section
variable{k n c:Nat}{st:aU}{Q:D->aU->Prop}{e:En}{g:eX}{loc:Loc}{G:List Bl}
theorem zJ(B:loc[9]? =some (some e.tl))(h:Q (.bl e.call) st):W (run g (.and (.cmp .Eq (.ix (.v 9)<|.c<|.int<|0)<|.c<|.str "risk")<|.cmp .Eq (.ix (.v 9)<|.c<|.int<|1)<|.c<|.str "call") loc st) Q:=by
 have F:∀{t:Str}{xs:List D},(t==("risk":Str))=false->e.tl=.tup (.str t::xs)->e.call=false->W (run g (.and (.cmp .Eq (.ix (.v 9)<|.c<|.int<|0)<|.c<|.str "risk")<|.cmp .Eq (.ix (.v 9)<|.c<|.int<|1)<|.c<|.str "call") loc st) Q:=λ{t xs} ht H I=>by
  rw[H] at B;refine w_and<|bi<|be<|aH B<|aV<|dg Fi<|aV<|w_eq eq_str ⟨_,rfl,λz=>?_,λ_=>?_⟩
  .rw[ht] at z;cases z
  .rw[<-I];exact h
 cases e with
 |rk op ex z a x cs=>
  have B:loc[9]? =some (some<|.tup [.str "risk",.str op,ex,z,ed a x,.tup<|cs.map cD]):=B;refine w_and<|bi<|be<|aH B<|aV<|dg rfl<|aV<|w_eq eq_str ⟨_,rfl,λ_=>?_,λz=>?_⟩
  .exact bi<|be<|aH B<|aV<|dg rfl<|aV<|w_eq eq_str h
  .cases z
 |bk o=>exact F (t:= "back") (by decide+kernel) rfl rfl
 |rs o=>exact F (t:= "raise") (by decide+kernel) rfl rfl
 |jp a x=>exact F (t:= "jump") (by decide+kernel) rfl rfl
 |br t a x b y=>exact F (t:= "branch") (by decide+kernel) rfl rfl
theorem o6{a:Ex}(h:W (run g a loc st) λx st1=>∃xs,x=.tup xs/\∀v:Int,v=(xs.length:Int)->Q (.int v) st1):W (run g (.bt .len [a]) loc st) Q:=
 bL (ac (h.mono λx st1 ⟨xs,e,q⟩=>by subst e;exact am<|gX<|q _ rfl))
theorem zI{a:Ex}(h:W (run g a loc st) λx st1=>∃n xs,x=.ref n/\st1[n]? =ls xs/\∀v:Int,v=(xs.length:Int)->Q (.int v) st1):W (run g (.bt .len [a]) loc st) Q:=
 bL (ac (h.mono λx st1 ⟨n,xs,e,e1,q⟩=>by subst e;exact am<|cU e1<|q _ rfl))
theorem zK{a:Ex}(h:W (run g a loc st) λx st1=>∃b,x=.bl b/\∀v:Int,v=(if b then 1 else 0)->Q (.int v) st1):W (run g (.bt .int [a]) loc st) Q:=
 bL (ac (h.mono λx st1 ⟨b,e,q⟩=>by subst e;exact am<|jh<|q _ rfl))
theorem tQ{i j:Int}(c: -100<j/\j<100)(h:Q (.int<|i*j) st):W (cB .mul (.int i) (.int j) st) Q:=w_mul (.inr ⟨by omega,by omega⟩) h
noncomputable def cC(G:List Bl)(j:Nat):Int:=(((G.take j).filter λB=>B.e.call).length:Int)
noncomputable def cT(G:List Bl)(j:Nat):Int:=((G.take j).map λB=>B.e.wt).sum
noncomputable def cG(G:List Bl)(j:Nat):Int:=((G.take j).map λB=>(B.nr:Int)).sum+(((G.take j).drop 1).map λB=>(B.np:Int)).sum
noncomputable def cR(G:List Bl)(j:Nat):Int:=((range j).map λx=>(cnt (wG G) x:Int)*k0 G x).sum
theorem yO{B:Bl}(h:G[j]? =some B):cC G (j+1)=cC G j+(if B.e.call then 1 else 0):=by unfold cC;rw[take_snoc h,filter_append,aE];cases q:B.e.call<;>simp[q]
theorem yL{B:Bl}(h:G[j]? =some B):cT G (j+1)=cT G j+B.e.wt:=by unfold cT;rw[take_snoc h,map_append,sum_append];simp
theorem yN{B:Bl}(h:G[j]? =some B):cG G (j+1)=cG G j+(B.nr:Int)+(B.np:Int)*(if(0:Int)<(j:Int) then 1 else 0):=by
 have c:=(aq h).1;unfold cG;rw[take_snoc h,map_append,sum_append];cases j with
 |zero=>simp
 |succ j=>
  rw[List.drop_append_of_le_length (by rw[length_take];omega),map_append,sum_append,if_pos (by omega)]
  simp only[map_cons,map_nil,sum_cons,sum_nil];omega
theorem yM{B:Bl}(h:G[j]? =some B):cR G (j+1)=cR G j+(B.nr:Int)*(cnt (wG G) j:Int):=by
 unfold cR;rw[range_succ,map_append,sum_append];have:k0 G j=(B.nr:Int):=by unfold k0;rw[h];rfl
 simp only[map_cons,map_nil,sum_cons,sum_nil,this,Int.add_zero];rw[Int.mul_comm]
theorem zM{f:Nat}{A B C E:Int}{Os:List (List Nat)}{Q:Fl->aU->Prop}(gk:GOk G)(hf:dj st f G)(hO:cF st m Os)(hl:Os.length=G.length)(ho:∀x,x<G.length->(wf Os x).length=cnt (wG G) x)
  (h:∀st1 x7 x8 x9,Gr st st1->W (execs (calls tab<|k+1) ss [rf c,nt<|A+mC G,nt<|B+zb G,nt<|C+mG G,nt<|E+mR G,rf f,rf m,x7,x8,x9] st1) Q):
  W (execs (calls tab<|k+1) (vY::ss)
   [rf c,nt A,nt B,nt C,nt E,rf f,rf m,x7,x8,x9] st) Q:=by
 unfold vY;obtain⟨t,g0,x,y,bs,h1,h4⟩:=hf;obtain⟨rs,q1,q2,q3⟩:=hO;have U:=h4.1;have h9:=gk.n9;refine jz<|bh<|aH rfl<|zk h1 4 rfl ⟨_,rfl,?_⟩;have hel:(dC 0<|bs.map D.ref).length=G.length:=by rw[cW,length_map,U]
 refine cj (L:=dC 0<|bs.map .ref) (aa _) (λj loc s=>(∃x7 x8 x9,loc=[rf c,nt<|A+cC G j,nt<|B+cT G j,nt<|C+cG G j,nt<|E+cR G j,rf f,rf m,x7,x8,x9])/\Gr st s)
  ⟨⟨x7,x8,x9,by simp[cC,cT,cG,cR]⟩,.refl _⟩ (λ_ _ _ _=>rfl) (λj z loc s hz hI=>?_) λloc s hI=>?_
 .obtain⟨⟨x7,x8,x9,rfl⟩,gs⟩:=hI;rw[cJ,aj] at hz;obtain⟨d,hd,rfl⟩:=map_eq_some_iff.mp hz;obtain⟨b,hb,rfl⟩:=map_eq_some_iff.mp hd;rw[zero_add];have hj:j<G.length:=by rw[<-U];exact(aq hb).1
  have Z:G[j]? =some G[j]:=af hj;obtain⟨ps,rws,n,e0,e1,e2,e3⟩:=h4.2 j b _ hb Z;have J:rs[j]? =some (rs[j]'(by omega)):=af (by omega)
  have Y:Os[j]? =some (Os[j]'(by omega)):=af (by omega)
  have hat:=q3 j _ _ J Y;have F:=ho j hj;rw[eY Y] at F;have hcl:=wB (wG G) j;have hwl:(wG G).length<=9:=gk.nn.2;rw[yO Z,yL Z,yN Z,yM Z];generalize cnt (wG G) j=cc at F hcl;refine aP (show W (.ok [D.int (j:Int),D.ref b] s) _ from ?_);refine aW<|C6 (e:=G[j].e)<|bh<|aH rfl<|wS (gs.at e2) 2 rfl ⟨n,rfl,e3.ki<|yz gs,?_⟩;refine aW<|aY<|aH rfl<|bL<|ac<|zJ (e:=G[j].e) rfl<|am<|jh<|w_add ?_;refine aW<|aY<|aH rfl<|bC<|ac<|aH rfl<|am<|so λs2 g2=>w_add ?_;have gs2:=gs.trans g2;refine aW<|aY<|aY<|aH rfl<|o6<|bh<|aH rfl<|wS (gs2.at e2) 1 rfl ⟨_,rfl,λv1 hv1=>w_add ?_⟩;refine aY<|o6<|bh<|aH rfl<|wS (gs2.at e2) 0 rfl ⟨_,rfl,λv2 hv2=>?_⟩;refine zK<|bi<|aH rfl<|aV<|w5 ⟨_,rfl,λv3 I=>?_⟩;refine tQ (by rw[I];split<;>omega)<|w_add ?_
  refine aW<|aY<|aH rfl<|aY<|o6<|bh<|aH rfl<|wS (gs2.at e2) 1 rfl ⟨_,rfl,λv4 hv4=>?_⟩;refine zI<|be<|aH rfl<|aH rfl<|bI (gs2.at q1) (bK (by rw[aj,J];rfl)) ⟨_,_,rfl,gs2.at hat,λv5 H=>?_⟩
  rw[bA,F] at H;refine tQ (by omega)<|w_add<|aO<|bW ⟨⟨nt (j:Int),rf b,some G[j].e.tl,?_⟩,gs2⟩
  have t1:v1=(G[j].nr:Int):=by rw[hv1,e1]
  have t2:v2=(G[j].np:Int):=by rw[hv2,e0]
  have t3:v3=if(0:Int)<(j:Int) then 1 else 0:=by rw[I];simp
  have t4:v4=(G[j].nr:Int):=by rw[hv4,e1]
  simp only[t1,t2,t3,t4,H,<-Int.add_assoc];rfl
 .obtain⟨⟨x7,x8,x9,rfl⟩,gs⟩:=hI;rw[hel];have a1:cC G G.length=mC G:=by unfold cC mC;rw[take_length]
  have a2:cT G G.length=zb G:=by unfold cT zb;rw[take_length]
  have a3:cG G G.length=mG G:=by unfold cG mG;rw[take_length]
  have a4:cR G G.length=mR G:=rfl;rw[a1,a2,a3,a4];exact a6<|h s _ _ _ gs
end
section
variable{k n r c:Nat}{st:aU}{Q:D->aU->Prop}{F:List Fu}{g:eX}{loc:Loc}{G:List Bl}
theorem zF{f:Nat}(gk:GOk G)(h5:loc[5]? =some (rf f))(hf:dj st f G)(h:∀en st1,Gr st st1->kU st1 en (tG G)->Q (.ref en) st1):
  W (run (calls tab<|k+1) (vW) loc st) Q:=by
 unfold vW;obtain⟨t,g0,x,y,bs,h1,h4⟩:=hf;have J:=h4.1;have h9:=gk.n9;refine bN<|bh<|aH h5<|zk h1 4 rfl ⟨_,rfl,?_⟩
 refine b5 (L:=bs.map .ref) (by show(bs.map D.ref).length<=1000000;rw[length_map];omega) (aa _) (λi acc s=>Gr st s/\∃rs:List Nat,acc=rs.map (λr=>D.tup [.str "",.ref r])/\rs.length=i/\∀(j r:Nat)(B:Bl),rs[j]? =some r->G[j]? =some B->s[r]? =ls ((zs B.e.fol).map .int))
  ⟨.refl _,[],rfl,rfl,λj r B a=>by simp at a⟩ (λ_ _ _ _=>rfl) (λi x acc s F Y=>?_) λacc s Y=>?_
 .obtain⟨z,rs,rfl,hi,c⟩:=Y;obtain⟨b,B,rfl,hb,Z,ps,rws,n,_,_,e2,e3⟩:=m_ (h4.ki<|yz z) F;have hz:=e3.2;have I:=wg B.e;refine cz<|bo<|ac<|aV<|ac<|bN<|qW (e:=B.e)<|bh<|aH rfl<|wS e2 2 rfl ⟨n,rfl,e3,λm s1 g1 hm=>⟨_,rfl,?_⟩⟩;have hL:bG (.at m) s1=(eD B.e).length:=by simp only[bG,hm]
  refine fi (L:=eD B.e) (λj=>((zs B.e.fol).map D.int).take j) (by simp) (by rw[hL];omega) (by rw[hL];exact aa _) (λj=>by simp only[nxt,hm]) (λj x F=>?_) ?_
  .obtain⟨a,y,b,rfl,U⟩:=zn F;refine il<|be<|aH rfl<|aV<|dg rfl ⟨rfl,?_⟩;have U:((zs B.e.fol).map D.int)[j]? =nt a:=by unfold zs;rw[map_map,List.getElem?_map,U];rfl
   rw[take_add_one,U];rfl
  have e5:((zs B.e.fol).map D.int).take (eD B.e).length=(zs B.e.fol).map D.int:=take_of_length_le (by unfold zs;simp[I])
  rw[e5];refine am ⟨z.trans<|g1.more _,rs++[s1.length],by simp,by simp[hi],λj r B' a b=>?_⟩
  by_cases hj:j<rs.length
  .rw[aB hj] at a;exact(g1.more _).at<|c j r B' a b
  .have H:j=i:=by have:=(aq a).1;simp at this;omega
   subst H;rw[az (by omega),hi,sub_self] at a
   cases a;rw[Z] at b;cases b;exact aG
 .obtain⟨z,rs,rfl,hi,c⟩:=Y;rw[length_map,J] at hi;refine h _ _ (z.more _) ⟨replicate rs.length<|.str "",rs,?_,by simp[hi],by simp[hi],λj r ts a b=>?_⟩
  .rw[aG]
   have:∀rs:List Nat,rs.map (λr=>D.tup [.str "",.ref r])=((replicate rs.length<|D.str "").zip rs).map λp=>.tup [p.1,.ref p.2]:=λrs=>by
    induction rs with
    |nil=>rfl
    |cons r rs ih=>rw[length_cons,List.replicate_succ,zip_cons_cons,map_cons,map_cons,ih]
   rw[this]
  .rw[aj] at b;obtain⟨B,Z,rfl⟩:=map_eq_some_iff.mp b;exact aZ<|c j r B a Z
theorem yx{o':O}(h:st[a]? =some o)(g:Gr (st.set a o') s):Gr st (s.set a o):=by
 have B:=(aq h).1;have c:=g.le;rw[aA] at c;refine zi (by rw[aA];exact c) λi hi=>?_
 by_cases e:a=i
 .subst e;rw[aK (by omega),h]
 .rw[aD e];have z:(st.set a o')[i]? =some st[i]:=by rw[aD e];exact af hi
  rw[g.at z,af hi]
theorem Cw(hF:FOk F)(hc:dz st c F)(h:∀st1,Gr st st1->Q (mF F) st1):Wv (calls tab (k+2) pS [.ref c] st) Q:=by
 obtain⟨a,b,h1,h2,h3,h4⟩:=hc
 walk_at "call0"
 refine yW<|bo<|ac<|aV<|ac<|aV<|ac<|aV<|ac<|aV<|am ⟨_,rfl,rfl,?_⟩;obtain⟨B,I⟩:∃B:(List Bl->Int)->Nat->Int,B=λv i=>((F.take i).map λp=>v p.G).sum:=⟨_,rfl⟩
 have H:∀(v:List Bl->Int)(i:Nat)(p:Fu),F[i]? =some p->B v (i+1)=B v i+v p.G:=λv i x hx=>by subst I;dsimp only;rw[take_snoc hx,map_append,sum_append];simp
 have h0:∀v,B v 0=0:=λv=>by subst I;simp
 have hal:a<st.length:=(aq h2).1
 have ki0:Ki st (st.set a<|.dcf<|nv F):=λi c fs e=>by
  rw[aD (λz=>by rw[<-z,h2] at e;cases e)]
  exact e
 refine w6<|bh<|aH rfl<|Dm h1 0 rfl ⟨a,nv F,λi loc s=>(∃x5 x6 x7 x8 x9,loc=[rf c,nt<|B mC i,nt<|B zb i,nt<|B mG i,nt<|B mR i,x5,x6,x7,x8,x9])/\Gr (st.set a<|.dcf<|nv F) s,rfl,h2,⟨⟨none,none,none,none,none,by rw[h0,h0,h0,h0];rfl⟩,.refl _⟩,λi loc s Y=>Y.2.at<|bB hal,λi p loc s hp Y=>?_,λloc s Y=>?_⟩
 .obtain⟨⟨x5,x6,x7,x8,x9,rfl⟩,gs⟩:=Y;unfold nv at hp;rw[aj] at hp;obtain⟨q,J,rfl⟩:=map_eq_some_iff.mp hp;have ki:Ki st s:=ki0.trans (yz gs);have U:=ag J;have Z:=(hF.ga q U).ok;have hf:=(h4 q U).ki ki;refine aW<|bC<|ac<|zF Z rfl hf λen s1 g1 hO=>am<|uC Z.tn Z.ht Z.t2 hO λm Os rs s2 g2 hm hL hOl hOx=>?_;have g12:=g1.trans g2;refine zM Z (hf.gr g12) hL.ways (by rw[hOl,length_map]) (λx hx=>?_) λs3 x7 x8 x9 g3=>aO (bW ⟨⟨rf q.f,rf m,x7,x8,x9,?_⟩,gs.trans<|g12.trans g3⟩)
  .rw[hOx x (by rw[length_map];exact hx),CG]
   rfl
  .rw[H _ _ _ J,H _ _ _ J,H _ _ _ J,H _ _ _ J]
 .obtain⟨⟨x5,x6,x7,x8,x9,rfl⟩,gs⟩:=Y;have hl:(nv F).length=F.length:=by unfold nv;rw[length_map]
  have he:∀v,B v (nv F).length=(F.map λp=>v p.G).sum:=λv=>by subst I;dsimp only;rw[hl,take_length]
  refine ba<|bo<|ac<|aH rfl<|ac<|aH rfl<|ac<|aH rfl<|ac<|aH rfl<|am<|bc ?_;rw[he,he,he,he];exact h _<|yx h2 gs
end
noncomputable def sD(a:Int)(K O G P A:Nat):List (Key×D):=[(.inr "last",.int a),(.inr "kinds",.ref K),(.inr "over",.ref O),(.inr "given",.ref G),(.inr "pools",.ref P),(.inr "params",.ref A)]
theorem xB{a m:Int}{K O G P A:Nat}:bD (sD a K O G P A) (.inr "last") (.int m)=sD m K O G P A:=by
 have e:∀x:Str,decide ((Sum.inr x:Key)=.inr "last")=decide (x= "last"):=λx=>by simp
 unfold bD;rw[if_pos (by simp[sD])]
 simp only[sD,map_cons,map_nil];rfl
noncomputable abbrev kR:D:= .tup [.str "row",.int 2]
def Kd(d:D):Prop:=d=kN∨d=kT∨d=kR
def F1(kv:List (Key×D)):Prop:=∀p∈kv,Kd p.2
def InK(st:aU)(K:Nat)(ns:List Int):Prop:=∃kv,st[K]? =dt kv/\∀n∈ns,(bV kv<|.inl n).isSome=true
structure Sh where
 l:Nat
 s:Nat
 K:Nat
 O:Nat
 G:Nat
 P:Nat
 A:Nat
structure Dx(h:Sh)(b:Nat)(st:aU):Prop where
 lf:Lf st h.l
 sd:∃a,st[h.s]? =dt (sD a h.K h.O h.G h.P h.A)
 kd:∃kv,st[h.K]? =dt kv/\F1 kv/\kv.length<=b
 ne:h.s≠h.K
structure Dr(h:Sh)(st st':aU):Prop where
 le:st.length<=st'.length
 same:∀i,i<st.length->i≠h.l->i≠h.s->i≠h.K->st'[i]? =st[i]?
 mono:∀ns,InK st h.K ns->InK st' h.K ns
theorem Dr.at{h:Sh}{a b:aU}(d:Dr h a b)(e:a[i]? =some o)(h1:i≠h.l)(h2:i≠h.s)(c:i≠h.K):b[i]? =some o:=by rw[d.same i (aq e).1 h1 h2 c];exact e
theorem Dr.trans{h:Sh}{a b:aU}(d:Dr h a b)(e:Dr h b c):Dr h a c:=
 ⟨aM d.le e.le,λi hi h1 h2 z=>(e.same i (ao hi d.le) h1 h2 z).trans<|d.same i hi h1 h2 z,λns q=>e.mono ns<|d.mono ns q⟩
theorem InK.gr{K:Nat}(h:InK st K ns)(g:Gr st st'):InK st' K ns:=by obtain⟨kv,e,q⟩:=h;exact⟨kv,g.at e,q⟩
theorem Dr.gr{h:Sh}{a b:aU}(g:Gr a b):Dr h a b:=⟨g.le,λi hi _ _ _=>by obtain⟨t,rfl⟩:=g;rw[aB hi],λns q=>q.gr g⟩
theorem Dx.gr{h:Sh}(d:Dx h b st)(g:Gr st st'):Dx h b st':=by obtain⟨⟨ns,H⟩,⟨a,F⟩,⟨kv,B,z⟩,c⟩:=d;exact⟨⟨ns,g.at H⟩,⟨a,g.at F⟩,⟨kv,g.at B,z⟩,c⟩
theorem Dx.nls{h:Sh}(d:Dx h b st):h.l≠h.s/\h.l≠h.K:=by
 obtain⟨⟨ns,c⟩,⟨a,F⟩,⟨kv,B,I⟩,H⟩:=d;refine⟨λz=>?_,λz=>?_⟩
 .rw[z,F] at c;cases c
 .rw[z,B] at c;cases c
theorem Dx.of_bu{h:Sh}(d:Dx h b st)(u:Bu h.l st st')(c:Lf st' h.l):Dx h b st':=by have n:=d.nls;obtain⟨_,⟨a,H⟩,⟨kv,F,B⟩,z⟩:=d;exact⟨c,⟨a,u.at H n.1.symm⟩,⟨kv,u.at F n.2.symm,B⟩,z⟩
theorem Dr.of_bu{h:Sh}(d:Dx h b st)(u:Bu h.l st st'):Dr h st st':=
 ⟨u.le,λi hi h1 _ _=>u.same i hi h1,λns q=>by obtain⟨kv,e,q⟩:=q;exact⟨kv,u.at e d.nls.2.symm,q⟩⟩
theorem zf{y:D}(z:Kd x)(c:Kd y):∃b,kY st x y=some b:=by
 rcases z with rfl|rfl|rfl<;>rcases c with rfl|rfl|rfl<;>exact⟨_,by simp[kY,nz,gC];rfl⟩
section
variable{k b p:Nat}{h:Sh}{st:aU}{Q:D->aU->Prop}
theorem du(d:Dx h b st)(q:∀w st1,Dr h st st1->Dx h b st1->Q (.int w) st1):Wv (calls tab (k+1) jo [.ref h.l] st) Q:=
 iW d.lf λw st1 u c=>q w st1 (.of_bu d u)<|d.of_bu u c
theorem s_fresh(d:Dx h b st)(hk:Kd kd)(hb:b<1000)(q:∀(n:Int) st1,Dr h st st1->Dx h (b+1) st1->InK st1 h.K [n]->Q (.int n) st1):Wv (calls tab (k+2) mL [.ref h.s,.ref h.l,kd] st) Q:=by
 obtain⟨a,hs⟩:=d.sd
 walk_at "call0"
 refine eE<|aY<|aY<|be<|aH rfl<|aV<|c5 hs rfl<|aV<|w_add ?_;refine aY<|bC<|ac<|aH rfl<|am<|du d λw s1 D1 J=>aV<|w_mod (by decide)<|w_add ?_
 obtain⟨a1,U⟩:=J.sd;obtain⟨kv,hk1,ko,kl⟩:=J.kd;have hsl:h.s<s1.length:=(aq U).1;refine aH rfl<|aV<|cy U rfl (by simp[sD]) ?_
 generalize hm:a+1+w % 3=m;rw[xB];obtain⟨H,c⟩:∃H,H=s1.set h.s (.dct<|sD m h.K h.O h.G h.P h.A):=⟨_,rfl⟩;show W (execs _ _ _<|s1.set h.s<|.dct<|sD m h.K h.O h.G h.P h.A) _;rw[<-c];have z:H[h.s]? =dt (sD m h.K h.O h.G h.P h.A):=by rw[c];exact bB hsl
 have Z:H[h.K]? =dt kv:=by rw[c];exact sn hk1 J.ne
 have hkl:h.K<H.length:=(aq Z).1;refine eE<|aH rfl<|be<|aH rfl<|aV<|c5 z rfl<|be<|aH rfl<|aV<|c5 z rfl<|cy Z rfl (by omega) ?_
 have B:(H.set h.K<|.dct<|bD kv (.inl m) kd)[h.s]? =dt (sD m h.K h.O h.G h.P h.A):=sn z J.ne.symm;have I:(H.set h.K<|.dct<|bD kv (.inl m) kd)[h.K]? =dt (bD kv (.inl m) kd):=bB hkl;refine ba<|be<|aH rfl<|aV<|c5 B rfl<|bc<|q m _ ⟨?_,λi hi h1 h2 h3=>?_,λns Y=>?_⟩ ⟨?_,⟨m,B⟩,⟨_,I,?_,?_⟩,J.ne⟩ ⟨_,I,λn Y=>?_⟩
 .rw[aA,c,aA];exact D1.le
 .rw[aD h3.symm,c,aD h2.symm];exact D1.same i hi h1 h2 h3
 .obtain⟨kv',e,w⟩:=D1.mono ns Y;rw[hk1] at e;cases e;refine⟨_,I,λn Y=>?_⟩;rw[gH];split
  .rfl
  .exact w n Y
 .obtain⟨ns,e⟩:=J.lf;have n:=J.nls;exact⟨ns,sn (by rw[c];exact sn e n.1.symm) n.2.symm⟩
 .intro p F;unfold bD at F;split at F
  .obtain⟨r,hr,rfl⟩:=mem_map.mp F;split
   .exact hk
   .exact ko r hr
  .rcases mem_append.mp F with F|F
   .exact ko p F
   .rw[mem_singleton.mp F];exact hk
 .have:=mq kv (.inl m) kd;omega
 .rw[mem_singleton.mp Y,gH,if_pos rfl];rfl
end
section
variable{k b p:Nat}{h:Sh}{st:aU}{Q:D->aU->Prop}{g:eX}{loc:Loc}
theorem rj{ms:List Int}{K:Nat}(q:InK st K ns)(z:∀n∈ms,n∈ns):InK st K ms:=by obtain⟨kv,e,w⟩:=q;exact⟨kv,e,λn c=>w n<|z n c⟩
theorem l8:∀{kvs:List (Key×D)}{k:Key}{d:D},bV kvs k=some d->∃p∈kvs,p.2=d
 |p::r,k,d,h=>by
  unfold bV at h;split at h
  .cases h;exact⟨p,.head _,rfl⟩
  .obtain⟨q,c,e⟩:=l8 h;exact⟨q,.tail _ c,e⟩
theorem tM{e:Ex}(d:Dx h b st)(hk:Kd kd)(hi:loc[i]? =some (rf p))(hj:loc[j]? =some (rf h.s))(hp:st[p]? =ls (ns.map .int))(hn:ns.length<=1000)(hin:InK st h.K ns)
  (he:∀(x:D)(P:D->aU->Prop),P kd st->W (run g e (some x::loc) st) P)(q:∀ms:List Int,(∀n∈ms,n∈ns)->ms.length<=ns.length->Q (.ref st.length) (st++[.lst<|ms.map .int])):
  W (run g (.comp .seq false (.v i) (.cmp .Eq (.ix (.ix (.v<|j+1)<|.c<|.str "kinds")<|.v 0) e) true<|.v 0) loc st) Q:=by
 classical
 obtain⟨a,hs⟩:=d.sd;obtain⟨kv,J,ko,kl⟩:=d.kd;obtain⟨kv',I,hv⟩:=hin;rw[J] at I;cases I;have hL:bG (.at p) st=(ns.map D.int).length:=by simp only[bG,hp]
 refine bN<|aH hi ⟨_,rfl,?_⟩;refine fi (L:=ns.map .int) (λi=>((ns.take i).filter λn=>decide<|kY st ((bV kv<|.inl n).getD .non) kd=some true).map .int) (by simp) (by rw[hL,length_map];omega) (by rw[hL];exact aa _) (λi=>by simp only[nxt,hp]) (λi x hx=>?_) ?_
 .rw[aj] at hx;obtain⟨n,F,rfl⟩:=map_eq_some_iff.mp hx;have U:=hv n<|ag F;obtain⟨d1,B⟩:=isSome_iff_exists.mp U;obtain⟨pp,Y,e1⟩:=l8 B;have Z:Kd d1:=by rw[<-e1];exact ko pp Y
  obtain⟨bb,H⟩:=zf (st:=st) Z hk;have hj':(some (D.int n)::loc)[j+1]? =some (rf h.s):=by simpa using hj
  refine iR<|bi<|be<|be<|aH hj'<|aV<|c5 hs rfl<|aH rfl<|eP J B<|he _ _<|w_eq H ⟨_,rfl,λz=>aH rfl ⟨rfl,?_⟩,λz=>⟨rfl,?_⟩⟩
  .rw[take_snoc F,filter_append,map_append];simp[B,H,z]
  .rw[take_snoc F,filter_append,map_append];simp[B,H,z]
 .rw[length_map,take_length];exact q _ (λn hn=>(mem_filter.mp hn).1)<|length_filter_le _ _
theorem eR{xs:List α}{i:Int}(c:0<xs.length):∃d,iM xs (i % (xs.length:Int))=some d/\d∈xs:=by
 obtain⟨d,h1,h2⟩:=wE (xs:=xs) (i:=i % (xs.length:Int)) (emod_nonneg _ (by omega))<|bm _ (by omega)
 exact⟨d,h1,ag h2⟩
theorem Dx.new(d:Dx h b st)(r:Dr h (st++[o]) st1)(c:Lf st h.l):st1[st.length]? =some o:=by obtain⟨ns,F⟩:=c;obtain⟨a,B⟩:=d.sd;obtain⟨kv,z,_⟩:=d.kd;have f:∀{i:Nat}{o:O},st[i]? =some o->st.length≠i:=λe=>(aw (aq e).1).symm;exact r.at aG (f F) (f B)<|f z
theorem dS(d:Dx h b st)(Z:Kd kd)(hp:st[p]? =ls (ns.map .int))(hn:ns.length<=1000)(U:InK st h.K ns)(q:∀o st1,Dr h st st1->Dx h b st1->Q o st1):Wv (calls tab (k+2) ku [.ref h.s,.ref h.l,.ref p,kd] st) Q:=by
 walk_at "call0"
 refine aW<|tM (i:=2) (j:=0) d Z rfl rfl hp hn U (λx P hP=>aH rfl hP) λms hms hml=>?_;have X0:=d.gr<|.one st<|.lst<|ms.map .int;refine aW<|bC<|ac<|aH rfl<|am<|du X0 λw F D1 X1=>?_;have B:F[st.length]? =ls (ms.map .int):=d.new D1 d.lf;have J:Dr h st F:=(Dr.gr<|.one _ _).trans D1
 have fin:W (execs (calls tab<|k+1) [.ite (.cmp .Eq (.v 3)<|.tup [.c<|.str "truth"]) [.ret<|.tup [.c<|.str "truth",.cmp .Eq (.bin .mod (.bin .fdiv (.v 5)<|.c<|.int<|3)<|.c<|.int<|2)<|.c<|.int<|0]] [],.ret<|.tup [.c<|.str "num",.ix (.lst [.c<|.int<|0,.c<|.int<|1,.c<|.int<|2,.c<|.int<|-3,.c<|.int<|0,.c<|.int<|7])<|.bin .mod (.bin .fdiv (.v 5)<|.c<|.int<|3)<|.c<|.int<|6]] [rf h.s,rf h.l,rf p,some kd,rf st.length,nt w]<|F++[.lst []]) (Kr Q):=by
  have X2:=X1.gr<|.one F<|.lst [];have I:=J.trans<|.gr<|.one F<|.lst [];obtain⟨bb,Y⟩:=zf (st:=F++[.lst []]) Z<|.inr<|.inl rfl;refine cr<|bi<|aH rfl<|bo<|ac<|aV<|am<|w_eq Y ⟨_,rfl,λz=>?_,λz=>aO<|a6 ?_⟩
  .exact ba<|bo<|ac<|aV<|ac<|bi<|aY<|aY<|aH rfl<|aV<|lZ (by decide)<|aV<|w_mod (by decide)<|aV<|k9<|am<|ff<|bc<|q _ _ I X2
  .refine ba<|bo<|ac<|aV<|ac<|be<|bw<|ac<|aV<|ac<|aV<|ac<|aV<|ac<|aV<|ac<|aV<|ac<|aV<|am ?_;obtain⟨dd,h1,_⟩:=eR (xs:=[D.int 0,.int 1,.int 2,.int<|-3,.int 0,.int 7]) (i:=w / 3) (by decide)
   exact aY<|aY<|aH rfl<|aV<|lZ (by decide)<|aV<|w_mod (by decide)<|bI aG h1<|am<|bc<|q _ _ (I.trans<|.gr<|.one _ _)<|X2.gr<|.one _ _
 refine cr<|w_and<|bi<|aH rfl<|bw<|am<|jO (jc (aZ B) aG) ⟨_,rfl,λz=>?_,λz=>?_⟩
 .have H:0<ms.length:=by
   cases ms with
   |nil=>cases z
   |cons m ms=>simp
  refine bi<|aY<|aH rfl<|aV<|w_mod (by decide)<|aV<|w5 ⟨_,rfl,λz=>?_,λz=>aO<|a6 fin⟩
  obtain⟨dd,h1,_⟩:=eR (xs:=ms.map D.int) (i:=w / 3) (by simpa using H)
  exact ba<|bo<|ac<|aV<|ac<|be<|aH rfl<|aY<|aY<|aH rfl<|aV<|lZ (by decide)<|bL<|ac<|aH rfl<|am<|cU (aZ B)<|w_mod (by simpa using H)<|bI (aZ B) h1<|am<|ff<|bc<|q _ _ (J.trans<|.gr<|.one _ _)<|X1.gr<|.one _ _
 .exact⟨_,rfl,λz=>(nomatch z),λ_=>aO<|a6 fin⟩
end
section
variable{k b p:Nat}{h:Sh}{st:aU}{Q:D->aU->Prop}{g:eX}{loc:Loc}
theorem gG{s:Src}{L:List D}{f:D->M (Option D)}(Y:Nat->D->Prop)(d:Dx h b st)(hl:bG s st<=1000000)(hL:L.length<=bG s st)(nx:∀i st1,Dr h st st1->nxt s i st1=some L[i]?)
  (he:∀i x st1,L[i]? =some x->Dr h st st1->Dx h b st1->W (f x st1) λo F=>(∃y,o=some y/\Y i y)/\Dr h st1 F/\Dx h b F)
  (q:∀ys st1,ys.length=L.length->(∀i y,ys[i]? =some y->Y i y)->Dr h st st1->Dx h b st1->Q (.ref st1.length) (st1++[.lst ys])):W (cY f s st) Q:=by
 refine b5 (L:=L) hl hL (λi acc c=>Dr h st c/\Dx h b c/\acc.length=i/\∀i y,acc[i]? =some y->Y i y) ⟨.gr<|.refl _,d,rfl,λi y a=>by simp at a⟩ (λi acc c B=>nx i c B.1) (λi x acc c Z B=>?_) λacc c B=>q acc c B.2.2.1 B.2.2.2 B.1 B.2.1
 obtain⟨J,X1,H,U⟩:=B;refine(he i x c Z J X1).mono λo s2 hp=>?_;obtain⟨⟨y,rfl,hY⟩,D2,X2⟩:=hp;refine⟨J.trans D2,X2,by simp[H],λj z a=>?_⟩
 by_cases hj:j<acc.length
 .rw[aB hj] at a;exact U j z a
 .have I:j=acc.length:=by have:=(aq a).1;simp at this;omega
  subst I;rw[az<|aa _,sub_self] at a;cases a;rw[H];exact hY
theorem kP{t:Str}:∀ss:List Str,∃c,fN (.str t) (ss.map .str)=some c
 |[]=>⟨_,rfl⟩
 |x::ss=>by
  obtain⟨c,e⟩:=kP (t:=t) ss;refine⟨(x==t)||c,?_⟩;show(match nz (.str x) (.str t),fN (.str t) (ss.map .str) with|some a,some b=>some (a||b)|_,_=>none)=_
  rw[e];rfl
theorem tU{c:Bool}(z:st[n]? =ls ys)(e:fN x ys=some c)(q:Q (.bl c) st):W (cZ .In x (.ref n) st) Q:=by simp only[cZ,bO,z,e];exact q
theorem w_inS{t:Str}{ss:List Str}(hi:loc[i]? =some (some<|.str t))(q:∀B:Bool,Q (.bl B)<|st++[.lst<|ss.map .str]):W (run g (.cmp .In (.v i)<|.lst<|ss.map λs=>.c<|.str s) loc st) Q:=by
 obtain⟨B,e⟩:=kP (t:=t) ss;refine bi<|aH hi<|bw ?_
 have:∀(ss:List Str){st:aU}{P:List D->aU->Prop},P (ss.map .str) st->W (runs g (ss.map λs=>Ex.c<|.str s) loc st) P:=by
  intro ss
  induction ss with
  |nil=>intro st P z;exact am z
  |cons x ss ih=>intro st P z;exact ac<|aV<|ih z
 exact this ss<|tU aG e<|q B
theorem qZ{y:D}(c:Bool):∃d,iM [x,y] (if c then 1 else 0)=some d/\(d=x∨d=y):=by
 cases c
 .exact⟨x,rfl,.inl rfl⟩
 .exact⟨y,rfl,.inr rfl⟩
theorem DK(c:0<xs.length):∃d,iM xs (-1)=some d:=by
 unfold iM sO;rw[if_neg (by omega),if_pos (by omega)]
 exact⟨_,af (by omega)⟩
theorem j0{t:Str}{ms:List Int}{w3:Option D}(d:Dx h b st)(hb:b<1000)(hp:st[p]? =ls (ns.map .int))(hpl:p≠h.l)(hn:ns.length<=1000)(hin:InK st h.K ns)(hm:st[m]? =ls (ms.map .int))(hml:m≠h.l)(hg:t= "get" ->ms≠[])
  (q:∀(r:Nat)(n:Int)(fs:List (Str×D)) st1,Dr h st st1->Dx h (b+1) st1->InK st1 h.K [n]->st1[r]? =some (.ins "Row"<|("name",.int n)::fs)->st.length<=r->Q (.ref r) st1):
  W (execs (calls tab<|k+2) g_row [rf h.s,rf h.l,rf p,w3,some<|.str t,rf m,x6,x7,x8,x9] st) (Kr Q):=by
 unfold g_row
 have U:∀{i:Nat}{xs:List D},st[i]? =ls xs->i≠h.s/\i≠h.K:=λ{i xs} e=>by
  obtain⟨a,e2⟩:=d.sd;obtain⟨kv,e3,_⟩:=d.kd;refine⟨λz=>?_,λz=>?_⟩
  .rw[z,e2] at e;cases e
  .rw[z,e3] at e;cases e
 have keep:∀{B:aU},Dr h st B->B[p]? =ls (ns.map .int):=λD=>D.at hp hpl (U hp).1 (U hp).2;have keepm:∀{B:aU},Dr h st B->B[m]? =ls (ms.map .int):=λD=>D.at hm hml (U hm).1 (U hm).2
 have six:∀{P:D->aU->Prop}{loc:Loc},loc[4]? =some (some<|.str t)->loc[1]? =some (rf h.l)->(∀(bb:Bool) B,Dr h st B->Dx h b B->P (.bl bb) B)->W (run (calls tab<|k+2) (vT) loc st) P:=λ{P loc} h4 h1 hP=>by
  unfold vT;have g0:Gr st (st++[.lst<|(["and","or","not"]:List Str).map .str]):= .one _ _;refine w_or<|w_inS (ss:=["and","or","not"]) h4 λbb=>⟨bb,rfl,λ_=>hP _ _ (.gr g0)<|d.gr g0,λ_=>?_⟩;refine w_and<|bi<|aH h4<|aV<|w_eq eq_str ⟨_,rfl,λ_=>?_,λ_=>hP _ _ (.gr g0)<|d.gr g0⟩;exact bi<|aY<|bC<|ac<|aH h1<|am<|du (d.gr g0) λw B D1 X1=>aV<|w_mod (by decide)<|aV<|k9<|hP _ _ ((Dr.gr g0).trans D1) X1
 refine aW<|six rfl rfl λb6 B D1 X1=>?_;obtain⟨kd,hk1,hk2⟩:=qZ (x:=kN) (y:=kT) b6;have hkd:Kd kd:=hk2.elim .inl λz=>.inr<|.inl z;refine aW<|be<|bw<|ac<|bo<|ac<|aV<|am<|ac<|bo<|ac<|aV<|am<|am<|bL<|ac<|aH rfl<|am<|jh<|bI aG hk1 ?_;have g1:Gr B (B++[.lst [kN,kT]]):= .one _ _;have D2:=D1.trans<|.gr g1;have X2:=X1.gr g1;generalize B++[O.lst [kN,kT]]=s2 at D2 X2;refine aW<|bN<|aY<|aV ?_;refine bL<|ac<|w_inS (ss:=["neg","copy","not"]) rfl λb8=>am<|jh<|w_sub ⟨_,bS (by cases b8<;>decide),?_⟩
 have g3:Gr s2 (s2++[.lst<|(["neg","copy","not"]:List Str).map .str]):= .one _ _;have D3:=D2.trans<|.gr g3;have X3:=X2.gr g3;generalize s2++[O.lst<|(["neg","copy","not"]:List Str).map .str]=s3 at D3 X3;generalize hr:(2 - (if b8 then(1:Int) else 0)).toNat=cn
 have hcn:cn<=2:=by cases b8<;>simp at hr<;>omega
 refine gG (L:=bx cn) (λ_ _=>True) X3 (by show(bx cn).length<=1000000;rw[bp];omega) (aa _) (λ_ _ _=>rfl) (λi x J hx D4 X4=>?_) λys J hy _ D4 X4=>?_
 .have D04:=D3.trans D4;exact cz<|bC<|ac<|aH rfl<|ac<|aH rfl<|ac<|aH rfl<|ac<|aH rfl<|am<|dS X4 hkd (keep D04) hn (D04.mono ns hin) λo s5 D5 X5=>⟨⟨o,rfl,trivial⟩,D5,X5⟩
 have g5:Gr J (J++[.lst ys]):= .one _ _;have D5:=(D3.trans D4).trans<|.gr g5;have X5:=X4.gr g5;have c:(J++[O.lst ys])[J.length]? =ls ys:=aG
 have hyl:J.length≠h.l:=λz=>by obtain⟨vs,e⟩:=X4.lf;have:=(aq e).1;omega
 generalize J++[O.lst ys]=s5 at D5 X5 c
 have Y:J.length≠h.s/\J.length≠h.K:=by
  obtain⟨a,e2⟩:=X5.sd;obtain⟨kv,e3,_⟩:=X5.kd;refine⟨λz=>?_,λz=>?_⟩
  .rw[z,e2] at c;cases c
  .rw[z,e3] at c;cases c
 have fin:∀{H:aU}{n:Int}{fs:List (Str×D)},Dr h s5 H->Dx h (b+1) H->InK H h.K [n]->Q (.ref H.length) (H++[.ins "Row"<|("name",.int n)::fs]):=λ{H n fs} F X6 i6=>
  q _ n fs _ ((D5.trans F).trans<|.gr<|.one _ _) (X6.gr<|.one _ _) (i6.gr<|.one _ _) aG (D5.trans F).le
 refine cr<|bi<|aH rfl<|aV<|w_eq eq_str ⟨_,rfl,λz=>?_,λz=>aO<|a6 ?_⟩
 .refine ba<|dI<|ac<|bC<|ac<|aH rfl<|ac<|aH rfl<|ac<|bo<|ac<|aV<|ac<|aV<|am<|am<|s_fresh X5 (.inr<|.inr rfl) hb λn H F X6 i6=>?_;exact ac<|aH rfl<|ac<|bo<|ac<|aV<|ac<|aV<|am<|ac<|aH rfl<|am<|oB (cH<|F.at c hyl Y.1 Y.2) ⟨rfl,ff<|bc<|fin F X6 i6⟩
 refine cr<|bi<|aH rfl<|aV<|w_eq eq_str ⟨_,rfl,λz=>?_,λz=>aO<|a6 ?_⟩
 .have htg:t= "get":=by simpa using z
  obtain⟨dl,hdl⟩:=DK (xs:=ms.map D.int) (by
   have:=hg htg;cases ms with
   |nil=>exact absurd rfl this
   |cons a l=>simp)
  refine ba<|dI<|ac<|bC<|ac<|aH rfl<|ac<|aH rfl<|ac<|aH rfl<|am<|s_fresh X5 hkd hb λn H F X6 i6=>?_;refine ac<|aH rfl<|ac<|aY<|bC<|ac<|aH rfl<|am<|du X6 λw s7 D7 X7=>aV<|w_mod (by decide) ?_
  refine ac<|bw<|ac<|bo<|ac<|aV<|ac<|be<|aH rfl<|aV<|bI (keepm<|D5.trans<|F.trans D7) hdl<|am<|am<|am<|oB (cH aG) ⟨rfl,ff<|bc ?_⟩;exact fin ((F.trans D7).trans<|.gr<|.one _ _) (X7.gr<|.one _ _)<|(D7.mono _ i6).gr<|.one _ _
 obtain⟨I,Z⟩:∃I,I=s5++[O.lst [kd,kT]]:=⟨_,rfl⟩;have g6:Gr s5 I:=by rw[Z];exact .one _ _
 refine aW<|be<|bw<|ac<|aH rfl<|ac<|bo<|ac<|aV<|am<|am ?_;refine bL<|ac<|w_inS (ss:=["less","same"]) rfl λb9=>am<|jh ?_;obtain⟨kd9,hk9,hk9'⟩:=qZ (x:=kd) (y:=kT) b9;refine bI (aZ aG) hk9 ?_;have hkd9:Kd kd9:=hk9'.elim (λz=>z▸hkd) λz=>.inr<|.inl z;show W (execs _ _ _<|s5++[O.lst [kd,kT]]++[O.lst<|(["less","same"]:List Str).map .str]) _;rw[<-Z];have g7:Gr s5 (I++[O.lst<|(["less","same"]:List Str).map .str]):=g6.more _;refine ba<|dI<|ac<|bC<|ac<|aH rfl<|ac<|aH rfl<|ac<|aH rfl<|am<|s_fresh (X5.gr g7) hkd9 hb λn H F X6 i6=>?_;have D56:=(Dr.gr g7).trans F;exact ac<|aH rfl<|ac<|aV<|ac<|aH rfl<|am<|oB (cH<|D56.at c hyl Y.1 Y.2) ⟨rfl,bc<|fin D56 X6 i6⟩
theorem s_row(d:Dx h b st)(hb:b<1000)(hp:st[p]? =ls (ns.map .int))(J:p≠h.l)(hn:ns.length<=1000)(U:InK st h.K ns)
  (q:∀(r:Nat)(n:Int)(fs:List (Str×D)) st1,Dr h st st1->Dx h (b+1) st1->InK st1 h.K [n]->st1[r]? =some (.ins "Row"<|("name",.int n)::fs)->st.length<=r->Q (.ref r) st1):Wv (calls tab (k+3) pQ [.ref h.s,.ref h.l,.ref p] st) Q:=by
 have nps:p≠h.s/\p≠h.K:=by
  obtain⟨a,e2⟩:=d.sd;obtain⟨kv,e3,_⟩:=d.kd;refine⟨λz=>?_,λz=>?_⟩
  .rw[z,e2] at hp;cases hp
  .rw[z,e3] at hp;cases hp
 have keep:∀{F:aU},Dr h st F->F[p]? =ls (ns.map .int):=λD=>D.at hp J nps.1 nps.2
 walk_at "call0"
 refine aW<|bw<|ac<|aV<|ac<|aV<|ac<|aV<|ac<|aV<|ac<|aV<|ac<|aV<|ac<|aV<|ac<|aV<|ac<|aV<|ac<|aV<|ac<|aV<|ac<|aV<|am ?_;generalize hws:([D.str "add",.str "sub",.str "less",.str "same",.str "neg",.str "copy",.str "and",.str "or",.str "not",.str "make",.str "get",.str "add"]:List D)=B;have hw12:B.length=12:=by rw[<-hws];rfl
 have hwst:∀x∈B,∃t:Str,x=.str t:=λx hx=>by rw[<-hws] at hx;simp only[mem_cons,mem_nil_iff,or_false] at hx;rcases hx with rfl|rfl|rfl|rfl|rfl|rfl|rfl|rfl|rfl|rfl|rfl|rfl<;>exact⟨_,rfl⟩
 have X0:=d.gr<|.one st<|.lst B;refine aW<|be<|aH rfl<|aY<|bC<|ac<|aH rfl<|am<|du X0 λw F D1 X1=>aV<|w_mod (by decide) ?_
 have hw1:F[st.length]? =ls B:=d.new D1 d.lf;have Z:Dr h st F:=(Dr.gr<|.one _ _).trans D1;obtain⟨dd,h1,h2⟩:=eR (xs:=B) (i:=w) (by omega)
 rw[hw12] at h1;obtain⟨t,rfl⟩:=hwst dd h2;refine bI hw1 h1 ?_;refine aW<|tM (i:=2) (j:=0) (kd:=kR) X1 (.inr<|.inr rfl) rfl rfl (keep Z) hn (Z.mono ns U) (λx P hP=>bo<|ac<|aV<|ac<|aV<|am hP) λms hms hml=>?_;have g2:Gr F (F++[.lst<|ms.map .int]):= .one _ _;have c:=Z.trans<|.gr g2;have X2:=X1.gr g2;have I:(F++[O.lst<|ms.map .int])[F.length]? =ls (ms.map .int):=aG
 have H:F.length≠h.l:=λz=>by obtain⟨vs,e⟩:=X1.lf;have:=(aq e).1;omega
 obtain⟨s2,hs2⟩:∃s2,s2=F++[O.lst<|ms.map .int]:=⟨_,rfl⟩;rw[<-hs2] at c X2 I ⊢;have q':∀{s3:aU},Dr h st s3->∀(r:Nat)(n:Int)(fs:List (Str×D)) st1,Dr h s3 st1->Dx h (b+1) st1->InK st1 h.K [n]->st1[r]? =some (.ins "Row"<|("name",.int n)::fs)->s3.length<=r->Q (.ref r) st1:=λD r n fs st1 D1 X1 i1 e1 l1=>q r n fs st1 (D.trans D1) X1 i1 e1<|aM D.le l1;refine cr<|w_and<|bi<|aH rfl<|aV<|w_eq eq_str ⟨_,rfl,λz=>?_,λz=>?_⟩
 .have Y:Gr s2 (s2++[O.lst []]):= .one _ _;refine bi (aH rfl<|bw<|am<|w_eq (jc (aZ I) aG) ⟨_,rfl,λz2=>?_,λz2=>?_⟩)
  .exact aW<|aV<|aO<|a6<|j0 (X2.gr Y) hb (keep<|c.trans<|.gr Y) J hn ((c.trans<|.gr Y).mono ns U) (aZ I) H (λe=>absurd e (by decide+kernel))<|q'<|c.trans<|.gr Y
  .exact aO<|a6<|j0 (X2.gr Y) hb (keep<|c.trans<|.gr Y) J hn ((c.trans<|.gr Y).mono ns U) (aZ I) H (λ_ e=>by rw[e] at z2;cases z2)<|q'<|c.trans<|.gr Y
 .refine⟨_,rfl,λz=>(nomatch z),λ_=>aO<|a6<|j0 X2 hb (keep c) J hn (c.mono ns U) I H (λe=>?_)<|q' c⟩;subst e;cases z
end
section
variable{k b p:Nat}{h:Sh}{st st1:aU}{Q:D->aU->Prop}
theorem Dx.nlst(d:Dx h b st)(e:st[a]? =ls xs):a≠h.s/\a≠h.K:=by
 obtain⟨c,F⟩:=d.sd;obtain⟨kv,B,_⟩:=d.kd;refine⟨λz=>?_,λz=>?_⟩
 .rw[z,F] at e;cases e
 .rw[z,B] at e;cases e
theorem Dr.lst(r:Dr h st st1)(d:Dx h b st)(e:st[a]? =ls xs)(c:a≠h.l):st1[a]? =ls xs:=r.at e c (d.nlst e).1 (d.nlst e).2
theorem Dr.ki(r:Dr h st st1)(d:Dx h b st):Ki st st1:=λm c fs e=>by
 obtain⟨ns,H⟩:=d.lf;obtain⟨a,F⟩:=d.sd;obtain⟨kv,B,_⟩:=d.kd;refine r.at e (λz=>?_) (λz=>?_) λz=>?_
 .rw[z,H] at e;cases e
 .rw[z,F] at e;cases e
 .rw[z,B] at e;cases e
theorem Dx.new_ne(d:Dx h b st)(B:st.length<=m):m≠h.l:=λz=>by obtain⟨ns,c⟩:=d.lf;have:=(aq c).1;omega
theorem Dx.kind(d:Dx h b st){n:Int}(J:InK st h.K [n]):∃kv c,st[h.K]? =dt kv/\bV kv (.inl n)=some c/\Kd c:=by
 obtain⟨kv,e,H,_⟩:=d.kd;obtain⟨F,e',I⟩:=J;rw[e] at e';cases e';obtain⟨c,hd⟩:=isSome_iff_exists.mp<|I n<|.head _;obtain⟨B,z,U⟩:=l8 hd;exact⟨kv,c,e,hd,by rw[<-U];exact H B z⟩
structure PrA(h:Sh)(ps:List (List Int))(st:aU):Prop where
 ex:∃as:List Nat,st[h.A]? =ls (as.map .ref)/\as.length=ps.length/\∀(j a:Nat)(ns:List Int),as[j]? =some a->ps[j]? =some ns->st[a]? =ls (ns.map .int)/\a≠h.l
 nl:h.A≠h.l
 ok:∀ns∈ps,ns.length<=1000/\InK st h.K ns
theorem PrA.dr{ps:List (List Int)}(q:PrA h ps st)(d:Dx h b st)(r:Dr h st st1):PrA h ps st1:=by obtain⟨⟨as,I,H,c⟩,F,B⟩:=q;exact⟨⟨as,r.lst d I F,H,λj a ns x y=>⟨r.lst d (c j a ns x y).1 (c j a ns x y).2,(c j a ns x y).2⟩⟩,F,λns z=>⟨(B ns z).1,r.mono ns (B ns z).2⟩⟩
theorem wu(c:Bool):cutD (ns.map D.int) (some (if c then 1 else 0)) none=(ns.drop (if c then 1 else 0)).map .int:=by
 unfold cutD;have e:(if c then(1:Int) else 0)=(((if c then 1 else 0:Nat)):Int):=by cases c<;>rfl
 rw[e,HT.iu,HT.ir,length_map,take_of_length_le (by simp),<-map_drop]
 congr 1;by_cases hz:(if c then 1 else 0:Nat)<=ns.length
 .rw[min_eq_left hz]
 .rw[Nat.min_eq_right (by omega),drop_length,List.drop_eq_nil_of_le (by omega)]
theorem uF{ps:List (List Int)}{t:Nat}{bb:Bool}(d:Dx h b st)(hA:PrA h ps st)(ht:t<ps.length)(hp:st[p]? =ls (pn.map .int))(H:p≠h.l)(U:pn.length<=1000)(hin:InK st h.K pn)
  (q:∀x st1,Dr h st st1->Dx h b st1->Q (ed t x) st1):Wv (calls tab (k+3) oy [.ref h.s,.ref h.l,.ref p,.int (t:Int),.bl bb] st) Q:=by
 obtain⟨a,hs⟩:=d.sd;obtain⟨⟨as,e1,e2,e3⟩,e4,e5⟩:=hA;have h1:as[t]? =some (as[t]'(by omega)):=af (by omega)
 have h2:ps[t]? =some ps[t]:=af ht;obtain⟨h3,h4⟩:=e3 t _ _ h1 h2;obtain⟨h5,h6⟩:=e5 _<|ag h2
 walk_at "call0"
 refine aW<|jN<|be<|be<|aH rfl<|aV<|c5 hs rfl<|aH rfl<|bI e1 (bK (by rw[aj,h1];rfl))<|bL<|ac<|aH rfl<|am<|jh ⟨_,rfl,nE h3 ?_⟩
 rw[wu];generalize hnm:ps[t].drop (if bb then 1 else 0)=nm
 have hnml:nm.length<=1000:=by rw[<-hnm,length_drop];omega
 have I:InK st h.K nm:=rj h6 λn U=>List.mem_of_mem_drop (by rw[hnm];exact U)
 have g1:Gr st (st++[.lst<|nm.map .int]):= .one _ _;have X1:=d.gr g1;have D1:Dr h st (st++[.lst<|nm.map .int]):= .gr g1;have z:(st++[O.lst<|nm.map .int])[st.length]? =ls (nm.map .int):=aG;have Y:st.length≠h.l:=d.new_ne<|aa _;generalize st++[O.lst<|nm.map .int]=s1 at X1 D1 z;refine ba<|bo<|ac<|aH rfl<|ac<|bL<|ac<|bN<|aH rfl ⟨_,rfl,?_⟩;have hL:bG (.at st.length) s1=(nm.map D.int).length:=by simp only[bG,z]
 refine gG (L:=nm.map .int) (λ_ _=>True) X1 (by rw[hL,length_map];omega) (by rw[hL];exact aa _) (λi s2 D2=>by simp only[nxt,D2.lst X1 z Y]) (λi x s2 hx D2 B=>?_) λys s2 hy _ D2 B=>?_
 .rw[aj] at hx;obtain⟨n,J,rfl⟩:=map_eq_some_iff.mp hx;have c:=D1.trans D2;obtain⟨a2,F⟩:=B.sd;obtain⟨kv,dd,hk1,hk2,Z⟩:=B.kind (rj (c.mono nm I) (ms:=[n]) λm z=>by rw[mem_singleton.mp z];exact ag J)
  exact cz<|bC<|ac<|aH rfl<|ac<|aH rfl<|ac<|aH rfl<|ac<|be<|be<|aH rfl<|aV<|c5 F rfl<|aH rfl<|eP hk1 hk2<|am<|dS B Z (c.lst d hp H) U (c.mono pn hin) λo s3 D3 X3=>⟨⟨o,rfl,trivial⟩,D3,X3⟩
 .exact am<|nD aG<|am<|bc<|q _ _ ((D1.trans D2).trans<|.gr<|.one _ _)<|B.gr<|.one _ _
end
structure Wd(w:Str)(T:List Nat):Prop where
 nil:w= "back" ∨w= "raise" ->T=[]
 cons:w≠ "back" ->w≠ "raise" ->∃a T',T=a::T'
 jp:w= "jump" ->T.length=1
 br:w= "branch" ->T.length=2
 le:T.length<=2
section
variable{k b p:Nat}{h:Sh}{st st1:aU}{Q:D->aU->Prop}
theorem vp{R:Nat->D->Prop}(c:ys.length=T'.length)(h1:T'.length<=1)(z:∀(i:Nat)(y:D),ys[i]? =some y->∃t,T'[i]? =some t/\R t y):(T'=[]/\ys=[])∨∃t y,T'=[t]/\ys=[y]/\R t y:=by
 rcases T' with _|⟨t,_|⟨u,r⟩⟩
 .exact .inl ⟨rfl,length_eq_zero_iff.mp c⟩
 .obtain⟨y,rfl⟩:=List.length_eq_one_iff.mp c;obtain⟨t',e,B⟩:=z 0 y rfl;cases e;exact .inr ⟨t,y,rfl,rfl,B⟩
 .simp at h1
theorem DF:cutD ((zs<|a::T').map D.int) (some 1) none=(zs T').map .int:=by
 unfold cutD;rw[show(some 1:Option Int)=some ((1:Nat):Int) from rfl,HT.iu,HT.ir,bA,length_cons,min_eq_left (by omega),take_of_length_le (by simp[zs])]
 rfl
theorem z7{ps:List (List Int)}{w:Str}{T pl:List Nat}{tg:Nat}(d:Dx h b st)(hA:PrA h ps st)(hW:Wd w T)(hT:∀t∈T,t<ps.length)(hP:st[h.P]? =ls (pl.map .ref))(hpn:pl[n]? =some p)(hp:st[p]? =ls (pn.map .int))(hpl:p≠h.l)(hn:pn.length<=1000)(J:InK st h.K pn)
  (htg:st[tg]? =ls ((zs T).map .int))(htl:tg≠h.l)(q:∀m e st1,Dr h st st1->Dx h b st1->gD st1 m e->e.fol=T->Q (.ref m) st1):Wv (calls tab (k+4) pR [.ref h.s,.ref h.l,.int (n:Int),.tup [.str w,.ref tg]] st) Q:=by
 obtain⟨a,hs⟩:=d.sd
 walk_at "call0"
 refine aW<|be<|be<|aH rfl<|aV<|c5 hs rfl<|aH rfl<|bI hP (bK (by rw[aj,hpn];rfl)) ?_
 refine yW<|aH rfl ⟨_,rfl,rfl,?_⟩;have kp:∀{F:aU},Dr h st F->F[p]? =ls (pn.map .int):=λD=>D.lst d hp hpl;refine cr<|bi<|aH rfl<|aV<|w_eq eq_str ⟨_,rfl,λz=>?_,λz=>aO<|a6 ?_⟩
 .have hw:w= "back":=by simpa using z
  refine ba<|dI<|ac<|bC<|ac<|aH rfl<|ac<|aH rfl<|ac<|aH rfl<|ac<|bo<|ac<|aV<|am<|am<|dS d (.inl rfl) hp hn J λo F D1 X1=>am<|A_ ⟨rfl,ff<|bc ?_⟩;exact q _ (.bk o) _ (D1.trans<|.gr<|.one _ _) (X1.gr<|.one _ _) ⟨aG,zero_le _⟩ (hW.nil<|.inl hw).symm
 have hw1:w≠ "back":=by simpa using z
 refine cr<|bi<|aH rfl<|aV<|w_eq eq_str ⟨_,rfl,λz=>?_,λz=>aO<|a6 ?_⟩
 .have hw:w= "raise":=by simpa using z
  have g1:Gr st (st++[.lst [.str "zero",.str "odd"]]):= .one _ _;refine ba<|dI<|ac<|be<|bw<|ac<|aV<|ac<|aV<|am<|aY<|bC<|ac<|aH rfl<|am<|du (d.gr g1) λv F D1 X1=>aV<|w_mod (by decide) ?_
  obtain⟨dd,h1,_⟩:=eR (xs:=[D.str "zero",.str "odd"]) (i:=v) (by decide)
  refine bI (d.new D1 d.lf) h1<|am<|yq ⟨rfl,ff<|bc ?_⟩;exact q _ (.rs dd) _ (((Dr.gr g1).trans D1).trans<|.gr<|.one _ _) (X1.gr<|.one _ _) ⟨aG,zero_le _⟩ (hW.nil<|.inr hw).symm
 have hw2:w≠ "raise":=by simpa using z
 obtain⟨a0,T',rfl⟩:=hW.cons hw1 hw2;have hT1:T'.length<=1:=by have:=hW.le;simpa using this
 refine aW<|bC<|ac<|aH rfl<|ac<|aH rfl<|ac<|aH rfl<|ac<|be<|aH rfl<|aV<|bI htg (bK (i:=0) rfl)<|ac<|w_inS (ss:=["risk","call"]) rfl λbb=>am ?_;have g1:Gr st (st++[.lst<|(["risk","call"]:List Str).map .str]):= .one _ _;refine uF (d.gr g1) (hA.dr d<|.gr g1) (hT a0<|.head _) (g1.at hp) hpl hn (J.gr g1) λx0 F D1 X1=>?_;have D01:=(Dr.gr g1).trans D1;have htg1:=D01.lst d htg htl;refine aW<|bN<|jN<|aH rfl<|aV ⟨1,rfl,nE htg1 ⟨_,rfl,?_⟩⟩;rw[DF];have g2:Gr F (F++[.lst<|(zs T').map .int]):= .one _ _;have X2:=X1.gr g2;have D02:=D01.trans<|.gr g2;have hm2:(F++[O.lst<|(zs T').map .int])[F.length]? =ls ((zs T').map .int):=aG;have hml2:F.length≠h.l:=X1.new_ne<|aa _;generalize F++[O.lst<|(zs T').map .int]=s2 at X2 D02 hm2;have hL:bG (.at F.length) s2=((zs T').map D.int).length:=by simp only[bG,hm2]
 refine gG (L:=(zs T').map .int) (λi y=>∃t,T'[i]? =some t/\∃x,y=ed t x) X2 (by rw[hL,bA];omega) (by rw[hL];exact aa _) (λi Z D3=>by simp only[nxt,D3.lst X2 hm2 hml2]) (λi y Z hx D3 X3=>?_) λys Z hyl hy D3 X3=>?_
 .obtain⟨t,ht,rfl⟩:=lX hx;have D03:=D02.trans D3;exact cz<|bC<|ac<|aH rfl<|ac<|aH rfl<|ac<|aH rfl<|ac<|aH rfl<|ac<|aV<|am<|uF X3 (hA.dr d D03) (hT t<|.tail _<|ag ht) (kp D03) hpl hn (D03.mono pn J) λx s4 D4 X4=>⟨⟨_,rfl,t,ht,x,rfl⟩,D4,X4⟩
 rw[bA] at hyl;have B:=(D02.trans D3).trans<|.gr<|.one Z<|.lst ys;have X4:=X3.gr<|.one Z<|.lst ys;have hys:(Z++[O.lst ys])[Z.length]? =ls ys:=aG;have I:Z.length≠h.l:=X3.new_ne<|aa _;generalize Z++[O.lst ys]=s4 at B X4 hys;have hone:=vp (R:=λt y=>∃x,y=ed t x) hyl hT1 hy;refine cr<|bi<|aH rfl<|aV<|w_eq eq_str ⟨_,rfl,λz=>?_,λz=>aO<|a6 ?_⟩
 .have hw:w= "jump":=by simpa using z
  have hT0:T'=[]:=by have:=hW.jp hw;simpa using this
  subst hT0;exact ba<|dI<|ac<|aH rfl<|am<|A8 ⟨rfl,ff<|bc<|q _ (.jp a0 x0) _ (B.trans<|.gr<|.one _ _) (X4.gr<|.one _ _) ⟨aG,by simp[En.fol]⟩ rfl⟩
 refine cr<|bi<|aH rfl<|aV<|w_eq eq_str ⟨_,rfl,λz=>?_,λz=>aO<|a6 ?_⟩
 .have hw:w= "branch":=by simpa using z
  have hT2:T'.length=1:=by have:=hW.br hw;simpa using this
  rcases hone with⟨rfl,_⟩|⟨t1,y1,rfl,rfl,x1,rfl⟩
  .simp at hT2
  refine ba<|dI<|ac<|bC<|ac<|aH rfl<|ac<|aH rfl<|ac<|aH rfl<|ac<|bo<|ac<|aV<|am<|am<|dS X4 (.inr<|.inl rfl) (kp B) hn (B.mono pn J) λo Y D5 X5=>?_;exact ac<|aH rfl<|ac<|be<|aH rfl<|aV<|bI (D5.lst X4 hys I) (bK (i:=0) rfl)<|am<|vK ⟨rfl,ff<|bc<|q _ (.br o a0 x0 t1 x1) _ ((B.trans D5).trans<|.gr<|.one _ _) (X5.gr<|.one _ _) ⟨aG,by simp[En.fol]⟩ rfl⟩
 refine aW<|bN<|aY<|aV<|bL<|ac<|bi<|aH rfl<|aV<|w_eq eq_str<|am<|jh<|w_add ⟨_,bS (by split<;>decide),?_⟩
 generalize hr:(1+(if(w== "risk") then(1:Int) else 0)).toNat=cn
 have hcn:cn<=2:=by rw[<-hr];split<;>decide
 refine gG (L:=bx cn) (λ_ _=>True) X4 (by show(bx cn).length<=1000000;rw[bp];omega) (aa _) (λ_ _ _=>rfl) (λi x Y hx D5 X5=>?_) λas Y _ _ D5 X5=>?_
 .have D05:=B.trans D5;exact cz<|bC<|ac<|aH rfl<|ac<|aH rfl<|ac<|aH rfl<|ac<|bo<|ac<|aV<|am<|am<|dS X5 (.inl rfl) (kp D05) hn (D05.mono pn J) λo s6 D6 X6=>⟨⟨o,rfl,trivial⟩,D6,X6⟩
 have D06:=(B.trans D5).trans<|.gr<|.one Y<|.lst as;have D46:=D5.trans<|.gr<|.one Y<|.lst as;have X6:=X5.gr<|.one Y<|.lst as;have has:(Y++[O.lst as])[Y.length]? =ls as:=aG;have hasl:Y.length≠h.l:=X5.new_ne<|aa _;generalize Y++[O.lst as]=s6 at D06 X6 has D46;have hys6:=D46.lst X4 hys I;refine aW<|bN<|aH rfl ⟨_,rfl,?_⟩;have hL6:bG (.at Z.length) s6=ys.length:=by simp only[bG,hys6]
 refine gG (L:=ys) (λi z=>∃t,T'[i]? =some t/\∃f x,z=.tup [f,ed t x]) X6 (by rw[hL6];omega) (by rw[hL6];exact aa _) (λi H D7=>by simp only[nxt,D7.lst X6 hys6 I]) (λi y H hx D7 X7=>?_) λcs H hcl hcs D7 X7=>?_
 .obtain⟨t,ht,x,rfl⟩:=hy i y hx;have g8:Gr H (H++[.lst [.str "zero",.str "great",.str "odd"]]):= .one _ _;refine cz (bo<|ac<|be<|bw<|ac<|aV<|ac<|aV<|ac<|aV<|am<|aY<|bC<|ac<|aH rfl<|am<|du (X7.gr g8) λv s8 D8 X8=>aV<|w_mod (by decide) ?_)
  obtain⟨dd,h1,_⟩:=eR (xs:=[D.str "zero",.str "great",.str "odd"]) (i:=v) (by decide)
  exact bI (X7.new D8 X7.lf) h1<|ac<|aH rfl<|am ⟨⟨_,rfl,t,ht,dd,x,rfl⟩,(Dr.gr g8).trans D8,X8⟩
 have htwo:=vp (R:=λt z=>∃f x,z=.tup [f,ed t x]) (hcl.trans hyl) hT1 hcs;have D08:=(D06.trans D7).trans<|.gr<|.one H<|.lst cs;have X8:=X7.gr<|.one H<|.lst cs;have U:(H++[O.lst cs])[H.length]? =ls cs:=aG;have hcsl:H.length≠h.l:=X7.new_ne<|aa _;have D68:=D7.trans<|.gr<|.one H<|.lst cs;generalize H++[O.lst cs]=s8 at D08 X8 U D68;have has8:=D68.lst X6 has hasl
 obtain⟨cl,hcl1,hcl2⟩:∃cl:List (D×Nat×D),cs=cl.map cD/\(cl.map λc=>c.2.1)=T':=by
  rcases htwo with⟨rfl,rfl⟩|⟨t,z,rfl,rfl,f,x,rfl⟩
  .exact⟨[],rfl,rfl⟩
  .exact⟨[(f,t,x)],rfl,rfl⟩
 subst hcl1
 have fin:∀{op:Str}{ex:D}{s9:aU},Dr h s8 s9->Dx h b s9->Q (.ref s9.length) (s9++[.ins "Risk"<|ly (.str op) ex (.tup as) (ed a0 x0)<|.tup<|cl.map cD]):=λ{op ex s9} D9 X9=>
  q _ (.rk op ex (.tup as) a0 x0 cl) _ ((D08.trans D9).trans<|.gr<|.one _ _) (X9.gr<|.one _ _) ⟨aG,by show(a0::cl.map λc=>c.2.1).length<=2;rw[hcl2];simpa using hT1⟩ (by show a0::(cl.map λc=>c.2.1)=_;rw[hcl2])
 refine cr<|bi<|aH rfl<|aV<|w_eq eq_str ⟨_,rfl,λz=>?_,λz=>aO<|a6 ?_⟩
 .exact ba<|dI<|ac<|aV<|ac<|aV<|ac<|aH rfl<|ac<|aH rfl<|ac<|aH rfl<|am<|vJ (cH has8) (cH U) ⟨rfl,ff<|bc<|fin (.gr<|.refl _) X8⟩
 have g9:Gr s8 (s8++[.lst [.str "mul",.str "div",.str "mod",.str "div"]]):= .one _ _;refine ba<|dI<|ac<|be<|bw<|ac<|aV<|ac<|aV<|ac<|aV<|ac<|aV<|am<|aY<|bC<|ac<|aH rfl<|am<|du (X8.gr g9) λv s9 D9 X9=>aV<|w_mod (by decide) ?_
 obtain⟨dd,h1,h2⟩:=eR (xs:=[D.str "mul",.str "div",.str "mod",.str "div"]) (i:=v) (by decide)
 obtain⟨op,rfl⟩:∃op:Str,dd=.str op:=by simp only[mem_cons,mem_nil_iff,or_false] at h2;rcases h2 with rfl|rfl|rfl|rfl<;>exact⟨_,rfl⟩
 have D89:=(Dr.gr g9).trans D9;exact bI (X8.new D9 X8.lf) h1<|ac<|aV<|ac<|aH rfl<|ac<|aH rfl<|ac<|aH rfl<|am<|vJ (cH<|D89.lst X8 has8 hasl) (cH<|D89.lst X8 U hcsl) ⟨rfl,bc<|fin D89 X9⟩
end
def yT(st:aU)(en lo:Nat)(Ws:List (Str×List Nat)):Prop:=∃rs:List Nat,st[en]? =ls ((Ws.zip rs).map λp=>.tup [.str p.1.1,.ref p.2])/\rs.length=Ws.length/\lo<=en/\(∀r∈rs,lo<=r)/\∀(j r:Nat)(w:Str×List Nat),rs[j]? =some r->Ws[j]? =some w->st[r]? =ls ((zs w.2).map .int)
structure ShOk(n:Nat)(Ws:List (Str×List Nat)):Prop where
 ln:Ws.length=n
 n2:2<=n
 n6:n<=6
 wd:∀w∈Ws,Wd w.1 w.2
 to:∀w∈Ws,∀t∈w.2,1<=t/\t<n
 nx:∀(i:Nat)(w:Str×List Nat),Ws[i]? =some w->i+1<n->∃T',w.2=(i+1)::T'
section
variable{k l:Nat}{st:aU}{Q:D->aU->Prop}
theorem nC{as:List α}{bs:List β}{a:α}{b:β}(h:as.length=bs.length):(as++[a]).zip (bs++[b])=as.zip bs++[(a,b)]:=by rw[List.zip_append h];rfl
theorem yT.snoc{en lo:Nat}{Ws:List (Str×List Nat)}{w:Str×List Nat}(B:rs.length=Ws.length)(F:∀(j r:Nat)(w:Str×List Nat),rs[j]? =some r->Ws[j]? =some w->st'[r]? =ls ((zs w.2).map .int))(z:st'[r]? =ls ((zs w.2).map .int)):
  ∀(j c:Nat)(w':Str×List Nat),(rs++[r])[j]? =some c->(Ws++[w])[j]? =some w'->st'[c]? =ls ((zs w'.2).map .int):=
 um (P:=λ_ r w=>st'[r]? =ls ((zs w.2).map .int)) B F z
theorem xz{ca:Int}(hc:ca=0∨ca=1)(hl:Lf st l)(h:∀n Ws en st1,Bu l st st1->Lf st1 l->ShOk n Ws->yT st1 en st.length Ws->Q (.ref en) st1):Wv (calls tab (k+2) mJ [.ref l,.int ca] st) Q:=by
 have hll:l<st.length:=by obtain⟨ns,e⟩:=hl;exact(aq e).1
 walk_at "call0"
 refine aW<|aY<|aV<|aY<|bC<|ac<|aH rfl<|am<|iW hl λw H u1 l1=>aV<|w_mod (by decide)<|w_add ?_
 have hw0:=emod_nonneg w (show(5:Int)≠0 by decide)
 have hw1:=bm w (show(0:Int)<5 by decide)
 obtain⟨n,hn⟩:∃n:Nat,2+w % 5=(n:Int):=⟨(2+w % 5).toNat,by omega⟩
 have hn2:2<=n/\n<=6:=by omega
 rw[hn];clear hw0 hw1 hn;refine aW<|bw<|am<|dk<|aY<|aH rfl<|aV<|w_sub ⟨_,bS (by omega),?_⟩
 have hnt:((n:Int) - 1).toNat=n - 1:=by omega
 rw[hnt];have Y:H.length≠l:=by have:=u1.le;omega
 refine cj (L:=bx<|n - 1) (aa _) (λi loc s=>(∃a b c d,loc=[rf l,nt ca,nt (n:Int),rf H.length,a,b,c,d])/\Bu l st s/\Lf s l/\H.length<s.length/\∃(Ws:List (Str×List Nat))(rs:List Nat),s[H.length]? =ls ((Ws.zip rs).map λp=>.tup [.str p.1.1,.ref p.2])/\rs.length=Ws.length/\Ws.length=i/\(∀r∈rs,st.length<=r/\r≠H.length)/\(∀(j r:Nat)(w:Str×List Nat),rs[j]? =some r->Ws[j]? =some w->s[r]? =ls ((zs w.2).map .int))/\(∀w∈Ws,Wd w.1 w.2/\∀t∈w.2,1<=t/\t<n)/\∀(j:Nat)(w:Str×List Nat),Ws[j]? =some w->∃T',w.2=(j+1)::T')
  ⟨⟨_,_,_,_,rfl⟩,u1.trans<|.gr<|.one _ _,by obtain⟨ns,e⟩:=l1;exact⟨ns,aZ e⟩,by simp,[],[],aG,rfl,rfl,(λr B=>nomatch B),(λj r w a=>by simp at a),(λw hw=>nomatch hw),λj w a=>by simp at a⟩ (λ_ _ _ _=>rfl) (λi z loc s hz hI=>?_) λloc s hI=>?_
 .obtain⟨⟨a,b,c,d,rfl⟩,u,lf,hlt,Ws,rs,e1,e2,e3,e4,e5,e6,e7⟩:=hI;obtain⟨hi,rfl⟩:=fk hz
  have key:∀{P:D->aU->Prop}{loc:Loc},loc[0]? =some (rf l)->loc[1]? =some (nt ca)->(∀(t:Str) F,t≠ "back" ->t≠ "raise" ->Bu l s F->Lf F l->P (.str t) F)->W (run (calls tab<|k+1) (rm) loc s) P:=λ{P loc} h0 h1 hP=>by
   have go:∀t:Str,t= "risk" ∨t= "call" ->iM [D.str "risk",.str "call"] ca=some (.str t)->W (run (calls tab<|k+1) (rm) loc s) P:=λt ht hat=>by
    unfold rm;refine be<|bw<|ac<|aV<|ac<|aV<|ac<|aV<|ac<|aV<|ac<|be<|bw<|ac<|aV<|ac<|aV<|am<|aH h1<|bI aG hat<|ac<|aV<|am ?_;have g2:Gr s (s++[O.lst [.str "risk",.str "call"]]++[O.lst [.str "jump",.str "branch",.str "branch",.str "risk",.str t,.str "risk"]]):=(Gr.one _ _).more _;refine aY<|bC<|ac<|aH h0<|am<|iW (by obtain⟨ns,e⟩:=lf;exact⟨ns,g2.at e⟩) λv F U l2=>aV<|w_mod (by decide) ?_
    obtain⟨dd,h2,h3⟩:=eR (xs:=[D.str "jump",.str "branch",.str "branch",.str "risk",.str t,.str "risk"]) (i:=v) (by simp)
    refine bI (U.at aG (by have:=(Bu.gr (l:=l)<|Gr.one s<|O.lst [.str "risk",.str "call"]).le;have:=u.le;simp at*;omega)) h2 ?_
    have hb:Bu l s F:=(Bu.gr g2).trans U;simp only[mem_cons,mem_nil_iff,or_false] at h3;rcases h3 with rfl|rfl|rfl|rfl|rfl|rfl
    .exact hP _ _ (by decide+kernel) (by decide+kernel) hb l2
    .exact hP _ _ (by decide+kernel) (by decide+kernel) hb l2
    .exact hP _ _ (by decide+kernel) (by decide+kernel) hb l2
    .exact hP _ _ (by decide+kernel) (by decide+kernel) hb l2
    .rcases ht with rfl|rfl
     .exact hP _ _ (by decide+kernel) (by decide+kernel) hb l2
     .exact hP _ _ (by decide+kernel) (by decide+kernel) hb l2
    .exact hP _ _ (by decide+kernel) (by decide+kernel) hb l2
   rcases hc with rfl|rfl
   .exact go "risk" (.inl rfl) rfl
   .exact go "call" (.inr rfl) rfl
  refine aW<|key rfl rfl λt F ht1 ht2 U l2=>?_;refine aW<|aY<|aV<|aY<|bC<|ac<|aH rfl<|am<|iW l2 λv s3 u3 l3=>aY<|aH rfl<|aV<|w_sub<|w_mod (by omega)<|w_add ?_
  have hv0:=emod_nonneg v (show(n:Int) - 1≠0 by omega)
  have hv1:=bm v (show(0:Int)<(n:Int) - 1 by omega)
  obtain⟨o,ho⟩:∃o:Nat,1+v % ((n:Int) - 1)=(o:Int):=⟨(1+v % ((n:Int) - 1)).toNat,by omega⟩
  have ho2:1<=o/\o<n:=by omega
  rw[ho];clear hv0 hv1 ho;have u03:=u.trans<|U.trans u3;have us3:=U.trans u3;have J:=us3.at e1 Y;have hs3:=us3.le
  have rest:∀I:Bool,(t= "branch" ->I=true)->(t= "jump" ->I=false)->W (execs (calls tab<|k+1) vX [rf l,nt ca,nt (n:Int),rf H.length,nt (i:Int),some<|.str t,nt (o:Int),some<|.bl I] s3) (Kf (λloc s=>(∃a b c d,loc=[rf l,nt ca,nt (n:Int),rf H.length,a,b,c,d])/\Bu l st s/\Lf s l/\H.length<s.length/\∃(Ws:List (Str×List Nat))(rs:List Nat),s[H.length]? =ls ((Ws.zip rs).map λp=>.tup [.str p.1.1,.ref p.2])/\rs.length=Ws.length/\Ws.length=i+1/\(∀r∈rs,st.length<=r/\r≠H.length)/\(∀(j r:Nat)(w:Str×List Nat),rs[j]? =some r->Ws[j]? =some w->s[r]? =ls ((zs w.2).map .int))/\(∀w∈Ws,Wd w.1 w.2/\∀t∈w.2,1<=t/\t<n)/\∀(j:Nat)(w:Str×List Nat),Ws[j]? =some w->∃T',w.2=(j+1)::T')<|Kn (calls tab<|k+1) [.ret<|.bin .add (.v 3)<|.lst [.tup [.ix (.lst [.c<|.str "back",.c<|.str "back",.c<|.str "raise"])<|.bin .mod (.fn 14 [.v 0])<|.c<|.int<|3,.lst []]]]<|Kr Q):=λI hb1 hb2=>by
   unfold vX;obtain⟨T,hT⟩:∃T:List Nat,T=if I then [i+1,o] else [i+1]:=⟨_,rfl⟩
   have hcut:cutD [D.int<|(i:Int)+1,.int (o:Int)] none (some (1+if I then 1 else 0))=(zs T).map .int:=by subst hT;cases I<;>rfl
   have wl:(Ws.zip rs).length=i:=by rw[length_zip];omega
   refine dJ<|aH rfl<|ce J<|bo<|ac<|aH rfl<|ac<|o5<|bw<|ac<|aY<|aH rfl<|aV<|w_add<|ac<|aH rfl<|am<|aY<|aV<|bL<|ac<|aH rfl<|am<|jh<|w_add ⟨_,rfl,nE aG ?_⟩;rw[hcut];have g4:Gr s3 (s3++[O.lst [.int<|(i:Int)+1,.int (o:Int)]]++[O.lst<|(zs T).map .int]):=(Gr.one _ _).more _;have e1'':=g4.at J;refine am<|bU e1'' (by rw[length_map,wl];omega) ?_
   have u4:Bu l st ((s3++[O.lst [.int<|(i:Int)+1,.int (o:Int)]]++[O.lst<|(zs T).map .int]).set H.length<|.lst<|(Ws.zip rs).map (λp=>D.tup [.str p.1.1,.ref p.2])++[.tup [.str t,.ref (s3++[O.lst [.int<|(i:Int)+1,.int (o:Int)]]).length]]):=(u03.trans<|.gr g4).set<|.inr u1.le;refine aO<|bW ⟨⟨_,_,_,_,rfl⟩,u4,?_,?_,Ws++[(t,T)],rs++[(s3++[O.lst [.int<|(i:Int)+1,.int (o:Int)]]).length],?_,by simp[e2],by simp[e3],λr B=>?_,?_,λw hw=>?_,λj w hw=>?_⟩
   .obtain⟨ns,e⟩:=l3;exact⟨ns,sn (g4.at e) Y⟩
   .rw[aA];have:=g4.le;omega
   .rw[bB (aq e1'').1,nC e2.symm,map_append];rfl
   .have:=u1.le;rcases mem_append.mp B with B|B
    .exact e4 r B
    .rw[mem_singleton.mp B];simp;omega
   .refine yT.snoc (en:=0) (lo:=0) e2 (λj r w a b=>?_) ?_
    .refine sn ((us3.trans<|.gr g4).at (e5 j r w a b) ?_)<|λz=>(e4 r<|ag a).2 z.symm;have:=(e4 r<|ag a).1;omega
    .exact sn aG (by simp;omega)
   .rcases mem_append.mp hw with hw|hw
    .exact e6 w hw
    .rw[mem_singleton.mp hw];subst hT;refine⟨⟨λz=>z.elim (λz=>absurd z ht1) λz=>absurd z ht2,λ_ _=>?_,λz=>?_,λz=>?_,?_⟩,λt' ht'=>?_⟩
     .cases I<;>exact⟨_,_,rfl⟩
     .rw[hb2 z];rfl
     .rw[hb1 z];rfl
     .cases I<;>simp
     .have:t'=i+1∨t'=o:=by cases I<;>simp at ht'<;>omega
      omega
   .by_cases hj:j<Ws.length
    .rw[aB hj] at hw;exact e7 j w hw
    .have Z:j=Ws.length:=by have:=(aq hw).1;simp at this;omega
     subst Z;rw[az<|aa _,sub_self] at hw;cases hw;subst hT;rw[e3];cases I<;>exact⟨_,rfl⟩
  refine aW<|w_or<|bi<|aH rfl<|aV<|w_eq eq_str ⟨_,rfl,λz=>rest true (λ_=>rfl)<|λe=>?_,λz=>?_⟩
  .subst e;cases z
  .have hbr:t≠ "branch":=by simpa using z
   refine w_and<|bi<|aH rfl<|aV<|jO eq_str ⟨_,rfl,λz2=>?_,λz2=>rest false (λe=>absurd e hbr) λ_=>rfl⟩;have hjp:t≠ "jump":=by simpa using z2
   exact bi<|aY<|aH rfl<|aV<|w_mod (by decide)<|aV<|k9<|rest _ (λe=>absurd e hbr) λe=>absurd e hjp
 .obtain⟨⟨a,b,c,d,rfl⟩,u,lf,hlt,Ws,rs,e1,e2,e3,e4,e5,e6,e7⟩:=hI;rw[bp] at e3;refine a6<|ba<|aY<|aH rfl<|bw<|ac<|bo<|ac<|be<|bw<|ac<|aV<|ac<|aV<|ac<|aV<|am ?_;have g2:Gr s (s++[O.lst [.str "back",.str "back",.str "raise"]]):= .one _ _;refine aY (bC<|ac<|aH rfl<|am<|iW (by obtain⟨ns,e⟩:=lf;exact⟨ns,g2.at e⟩) λv F U l2=>aV<|w_mod (by decide) ?_)
  obtain⟨dd,h2,h3⟩:=eR (xs:=[D.str "back",.str "back",.str "raise"]) (i:=v) (by simp)
  have ule:=u.le;refine bI (U.at aG (by omega)) h2<|ac<|bw<|am<|am<|am ?_
  obtain⟨t,rfl,ht⟩:∃t:Str,dd=.str t/\(t= "back" ∨t= "raise"):=by
   simp only[mem_cons,mem_nil_iff,or_false] at h3;rcases h3 with rfl|rfl|rfl
   .exact⟨_,rfl,.inl rfl⟩
   .exact⟨_,rfl,.inl rfl⟩
   .exact⟨_,rfl,.inr rfl⟩
  have us2:=(Bu.gr g2).trans U;have g3:Gr F (F++[O.lst []]++[O.lst [.tup [.str t,.ref F.length]]]):=(Gr.one _ _).more _;have J:=g3.at<|us2.at e1 Y;have wl:(Ws.zip rs).length=n - 1:=by rw[length_zip];omega
  have hsl:=us2.le;refine jQ J aG (by rw[length_map,wl];simp;omega)<|bc<|h n (Ws++[(t,[])]) _ _ ((u.trans us2).trans<|.gr<|g3.more _) ?_ ⟨by simp[e3];omega,hn2.1,hn2.2,λw hw=>?_,λw hw=>?_,λj w hw hj=>?_⟩ ⟨rs++[F.length],?_,by simp[e2],by simp;omega,λr B=>?_,?_⟩
  .obtain⟨ns,e⟩:=l2;exact⟨ns,(g3.more _).at e⟩
  .rcases mem_append.mp hw with hw|hw
   .exact(e6 w hw).1
   .rw[mem_singleton.mp hw];exact⟨λ_=>rfl,λh1 h2=>(ht.elim (λz=>absurd z h1) λz=>absurd z h2),λz=>by subst z;exact absurd ht (by decide+kernel),λz=>by subst z;exact absurd ht (by decide+kernel),zero_le _⟩
  .rcases mem_append.mp hw with hw|hw
   .exact(e6 w hw).2
   .rw[mem_singleton.mp hw];exact λt ht=>nomatch ht
  .by_cases Z:j<Ws.length
   .rw[aB Z] at hw;exact e7 j w hw
   .omega
  .rw[aG,nC e2.symm,map_append];rfl
  .rcases mem_append.mp B with B|B
   .exact(e4 r B).1
   .rw[mem_singleton.mp B];omega
  .refine yT.snoc (en:=0) (lo:=0) e2 (λj r w a b=>?_) ?_
   .refine(g3.more _).at<|us2.at (e5 j r w a b) ?_;have:=(e4 r<|ag a).1;omega
   .exact aZ<|aZ aG
end
section
variable{b p i:Nat}{h:Sh}{st st1:aU}{ps:List (List Int)}{Os:List (List Nat)}
def Lk(h:Sh)(st:aU)(a:Nat)(xs:List D):Prop:=st[a]? =ls xs/\a≠h.l/\a≠h.P
def Nm(h:Sh)(st:aU)(a m:Nat):Prop:=∃ns:List Int,Lk h st a (ns.map .int)/\ns.length<=m/\InK st h.K ns
def wU(h:Sh)(st:aU)(en:Nat)(Ws:List (Str×List Nat)):Prop:=∃rs:List Nat,Lk h st en ((Ws.zip rs).map λp=>.tup [.str p.1.1,.ref p.2])/\rs.length=Ws.length/\∀(j r:Nat)(w:Str×List Nat),rs[j]? =some r->Ws[j]? =some w->Lk h st r ((zs w.2).map .int)
structure D2(h:Sh)(st st':aU):Prop where
 le:st.length<=st'.length
 same:∀i,i<st.length->i≠h.l->i≠h.s->i≠h.K->i≠h.G->i≠h.P->st'[i]? =st[i]?
structure By(h:Sh)(b:Nat)(ps:List (List Int))(Os:List (List Nat))(i:Nat)(st:aU):Prop where
 dx:Dx h b st
 pr:∃as:List Nat,Lk h st h.A (as.map .ref)/\as.length=ps.length/\∀(j a:Nat)(ns:List Int),as[j]? =some a->ps[j]? =some ns->Lk h st a (ns.map .int)/\ns.length<=2/\InK st h.K ns
 ov:∃rs:List Nat,Lk h st h.O (rs.map .ref)/\rs.length=Os.length/\∀(j r:Nat)(ws:List Nat),rs[j]? =some r->Os[j]? =some ws->Lk h st r ((zs ws).map .int)
 gv:∃gv,st[h.G]? =dt gv/\gv.length<=i/\∀o,o<i->∃a,bV gv (.inl (o:Int))=rf a/\Nm h st a 5
 pl:∃pl:List Nat,st[h.P]? =ls (pl.map .ref)/\pl.length=i/\∀(j a:Nat),pl[j]? =some a->Nm h st a 100
 ne:h.G≠h.s/\h.G≠h.K/\h.P≠h.l
theorem Lk.dr(q:Lk h st a xs)(d:Dx h b st)(r:Dr h st st1):Lk h st1 a xs:=⟨r.lst d q.1 q.2.1,q.2⟩
theorem Nm.dr(q:Nm h st a m)(d:Dx h b st)(r:Dr h st st1):Nm h st1 a m:=by obtain⟨ns,B,z,c⟩:=q;exact⟨ns,B.dr d r,z,r.mono ns c⟩
theorem By.dr(q:By h b ps Os i st)(r:Dr h st st1)(X:Dx h b' st1):By h b' ps Os i st1:=by
 obtain⟨d,⟨as,a1,a2,a3⟩,⟨rs,I,H,F⟩,⟨J,c,Y,U⟩,⟨B,p1,p2,p3⟩,ne⟩:=q;refine⟨X,⟨as,a1.dr d r,a2,λj a ns x y=>?_⟩,⟨rs,I.dr d r,H,λj a ws x y=>(F j a ws x y).dr d r⟩,⟨J,r.at c ?_ ne.1 ne.2.1,Y,λo ho=>?_⟩,⟨B,r.lst d p1 ne.2.2,p2,λj a x=>(p3 j a x).dr d r⟩,ne⟩
 .obtain⟨u,v,w⟩:=a3 j a ns x y;exact⟨u.dr d r,v,r.mono ns w⟩
 .obtain⟨ns,e⟩:=d.lf;exact λz=>by rw[z,e] at c;cases c
 .obtain⟨a,e1,Z⟩:=U o ho;exact⟨a,e1,Z.dr d r⟩
theorem By.gr(q:By h b ps Os i st)(g:Gr st st1):By h b ps Os i st1:=q.dr (.gr g)<|q.dx.gr g
theorem wU.dr{en:Nat}{Ws:List (Str×List Nat)}(q:wU h st en Ws)(d:Dx h b st)(r:Dr h st st1):wU h st1 en Ws:=by obtain⟨rs,B,z,c⟩:=q;exact⟨rs,B.dr d r,z,λj a w x y=>(c j a w x y).dr d r⟩
theorem D2.trans{a b:aU}(x:D2 h a b)(y:D2 h b c):D2 h a c:=⟨aM x.le y.le,λi hi h1 h2 F B z=>(y.same i (ao hi x.le) h1 h2 F B z).trans<|x.same i hi h1 h2 F B z⟩
end
section
variable{k b p i en:Nat}{h:Sh}{st st1:aU}{Q:D->aU->Prop}{ps:List (List Int)}{Os:List (List Nat)}{Ws:List (Str×List Nat)}
theorem Dr.set(r:Dr h st s)(B:st.length<=n)(c:n≠h.K):Dr h st (s.set n o):=
 ⟨by rw[aA];exact r.le,λi hi h1 h2 z=>by rw[aD (by omega)];exact r.same i hi h1 h2 z,λns q=>by obtain⟨kv,e,w⟩:=r.mono ns q;exact⟨kv,sn e c,w⟩⟩
theorem Dx.set(d:Dx h b s)(h1:n≠h.l)(h2:n≠h.s)(c:n≠h.K):Dx h b (s.set n o):=by obtain⟨⟨ns,I⟩,⟨a,H⟩,⟨kv,F,B⟩,z⟩:=d;exact⟨⟨ns,sn I h1⟩,⟨a,sn H h2⟩,⟨kv,sn F c,B⟩,z⟩
theorem InK.set(q:InK s h.K ns)(c:n≠h.K):InK (s.set n o) h.K ns:=by obtain⟨kv,e,w⟩:=q;exact⟨kv,sn e c,w⟩
theorem InK.snoc{n:Int}(q:InK s h.K ns)(r:InK s h.K [n]):InK s h.K (ns++[n]):=by obtain⟨kv,z,F⟩:=q;obtain⟨H,c,B⟩:=r;rw[z] at c;cases c;exact⟨kv,z,λm I=>(mem_append.mp I).elim (F m)<|B m⟩
structure Md(h:Sh)(b pm:Nat)(st s:aU)(pa ma ra:Nat):Prop where
 dr:Dr h st s
 dx:Dx h b s
 po:∃ns:List Int,s[pa]? =ls (ns.map .int)/\ns.length<=pm/\InK s h.K ns
 mi:∃ns:List Int,s[ma]? =ls (ns.map .int)/\ns.length+60<=pm+15/\InK s h.K ns
 ro:∃rws,s[ra]? =ls rws/\rws.length<=100
 up:st.length<=pa/\st.length<=ma/\st.length<=ra
 ne:pa≠ma/\pa≠ra/\ma≠ra
theorem Md.nn(q:Md h b pm st s pa ma ra)(z:h.l<st.length)(c:st.length<=n)(e:s[n]? =ls xs):n≠h.l/\n≠h.s/\n≠h.K:=⟨by omega,(q.dx.nlst e).1,(q.dx.nlst e).2⟩
theorem Md.row{c:List D}(q:Md h b pm st s pa ma ra)(H:h.l<st.length)(e:s[ra]? =ls c)(I:c.length<100):Md h b pm st (s.set ra<|.lst<|c++[d]) pa ma ra:=by
 have nn:=q.nn H q.up.2.2 e;obtain⟨ns,p1,p2,p3⟩:=q.po;obtain⟨ms,F,B,z⟩:=q.mi;exact⟨q.dr.set q.up.2.2 nn.2.2,q.dx.set nn.1 nn.2.1 nn.2.2,⟨ns,sn p1 q.ne.2.1.symm,p2,p3.set nn.2.2⟩,⟨ms,sn F q.ne.2.2.symm,B,z.set nn.2.2⟩,⟨_,bB (aq e).1,by simp;omega⟩,q.up,q.ne⟩
theorem Md.next{s':aU}(q:Md h b pm st s pa ma ra)(z:h.l<st.length)(r:Dr h s s')(X:Dx h b' s'):Md h b' pm st s' pa ma ra:=by obtain⟨ns,p1,p2,p3⟩:=q.po;obtain⟨ms,F,J,I⟩:=q.mi;obtain⟨c,B,H⟩:=q.ro;exact⟨q.dr.trans r,X,⟨ns,r.lst q.dx p1 (q.nn z q.up.1 p1).1,p2,r.mono _ p3⟩,⟨ms,r.lst q.dx F (q.nn z q.up.2.1 F).1,J,r.mono _ I⟩,⟨c,r.lst q.dx B (q.nn z q.up.2.2 B).1,H⟩,q.up,q.ne⟩
theorem Md.nm{n:Int}(q:Md h b pm st s pa ma ra)(I:h.l<st.length)(H:InK s h.K [n]){ms:List Int}(p1:s[pa]? =ls (ns.map .int))(p2:ns.length<=pm)(p3:InK s h.K ns)(F:s[ma]? =ls (ms.map .int))(Z:ms.length+60<=pm+15)(Y:InK s h.K ms):
  Md h b (pm+1) st ((s.set pa<|.lst<|ns.map .int++[.int n]).set ma<|.lst<|ms.map .int++[.int n]) pa ma ra:=by
 have z:=q.nn I q.up.1 p1;have c:=q.nn I q.up.2.1 F;obtain⟨B,U,J⟩:=q.ro;refine⟨(q.dr.set q.up.1 z.2.2).set q.up.2.1 c.2.2,(q.dx.set z.1 z.2.1 z.2.2).set c.1 c.2.1 c.2.2,⟨ns++[n],?_,by simp;omega,((p3.snoc H).set z.2.2).set c.2.2⟩,⟨ms++[n],?_,by simp;omega,((Y.snoc H).set z.2.2).set c.2.2⟩,⟨B,sn (sn U q.ne.2.1) q.ne.2.2,J⟩,q.up,q.ne⟩
 .rw[map_append];exact sn (bB (aq p1).1) q.ne.1.symm
 .rw[map_append];exact bB (by rw[aA];exact(aq F).1)
theorem lS{x y z:Option D}(q0:By h b ps Os i st)(I:h.l<st.length)(hb:b<900)(hi:i<9)(m:Md h b 47 st s pa ma ra)(hr:∃F,s[ra]? =ls F/\F.length<=1)
  (q:∀F m st1,By h (b+3) ps Os (i+1) st1->D2 h st st1->st.length<=m->st1[m]? =ls F->Q (.ref m) st1):
  W (execs (calls tab<|k+3) pW [rf h.s,rf h.l,nt (i:Int),rf en,rf pa,x,rf ma,rf ra,y,z] s) (Kr Q):=by
 unfold pW;refine dk<|aY<|bC<|ac<|aH rfl<|am<|du m.dx λw s1 D1 X1=>aV<|w_mod (by decide) ⟨_,bS (by have:=emod_nonneg w (show(4:Int)≠0 by decide);have:=bm w (show(0:Int)<4 by decide);omega),?_⟩
 have hw0:=emod_nonneg w (show(4:Int)≠0 by decide)
 have hw1:=bm w (show(0:Int)<4 by decide)
 generalize hcn:(w % 4).toNat=cn;have hcn3:cn<=3:=by omega
 clear hcn hw0 hw1;have m1:=m.next I D1 X1
 obtain⟨rw0,hr1,hr2⟩:=hr;have hr1':=D1.lst m.dx hr1 (m.nn I m.up.2.2 hr1).1
 refine cj (L:=bx cn) (aa _) (λj loc s=>(∃y,loc=[rf h.s,rf h.l,nt (i:Int),rf en,rf pa,x,rf ma,rf ra,y,z])/\Md h (b+j) (47+j) st s pa ma ra/\∃F,s[ra]? =ls F/\F.length<=1+j)
  ⟨⟨_,rfl⟩,m1,rw0,hr1',hr2⟩ (λ_ _ _ _=>rfl) (λj v loc s2 hv hI=>?_) λloc s2 hI=>?_
 .obtain⟨⟨y,rfl⟩,H,F,t1,t2⟩:=hI;obtain⟨hj,rfl⟩:=fk hv;obtain⟨ns,p1,p2,p3⟩:=H.po;refine dJ (aH rfl<|ce t1<|bC<|ac<|aH rfl<|ac<|aH rfl<|ac<|aH rfl<|am<|s_row H.dx (by omega) p1 (H.nn I H.up.1 p1).1 (by omega) p3 λr n fs s3 D3 X3 i3 hr3 hrl=>?_)
  have m3:=H.next I D3 X3
  have t3:=D3.lst H.dx t1 (H.nn I H.up.2.2 t1).1;refine bU t3 (by omega) ?_
  have U:=m3.row I t3 (d:= .ref r) (by omega)
  have hra:=(aq t3).1;have t4:(s3.set ra<|.lst<|F++[.ref r])[ra]? =ls (F++[.ref r]):=bB hra;have nra:=m3.nn I m3.up.2.2 t3;have i4:=i3.set (o:= .lst<|F++[.ref r]) nra.2.2;have Z:(s3.set ra<|.lst<|F++[.ref r])[r]? =some (.ins "Row"<|("name",.int n)::fs):=sn hr3 λe=>by rw[e,hr3] at t3;cases t3
  generalize s3.set ra (.lst<|F++[.ref r])=s4 at U t4 i4 Z
  have hlast:iM (F++[D.ref r]) (-1)=rf r:=by
   unfold iM sO;rw[if_neg (by omega),if_pos (by simp;omega)]
   show(F++[D.ref r])[(-1+(((F++[D.ref r]).length:Nat):Int)).toNat]? =_;rw[show(-1+(((F++[D.ref r]).length:Nat):Int)).toNat=F.length by simp;omega,az<|aa _,sub_self]
   rfl
  obtain⟨ns,p1,p2,p3⟩:=U.po;obtain⟨ms,u1,u2,u3⟩:=U.mi
  have fld:∀{P:D->aU->Prop}{s5:aU}{loc:Loc},loc[7]? =some (rf ra)->s5[ra]? =ls (F++[.ref r])->s5[r]? =some (.ins "Row"<|("name",.int n)::fs)->P (.int n) s5->W (run (calls tab<|k+3) (.fld (.ix (.v 7)<|.c<|.int<|-1) "name" [] ["Row"]) loc s5) P:=λ{P s5 loc} h7 e1 e2 hP=>
   bh (be<|aH h7<|aV<|bI e1 hlast ⟨r,_,_,_,rfl,e2,rfl,by decide+kernel,hP⟩)
  refine dJ<|aH rfl<|ce p1<|fld rfl t4 Z<|bU p1 (by rw[length_map];omega) ?_
  refine dJ<|aH rfl<|ce (sn u1 U.ne.1)<|fld rfl (sn t4 U.ne.2.1) (sn Z λe=>by rw[<-e,p1] at Z;cases Z)<|bU (sn u1 U.ne.1) (by rw[length_map];omega) ?_
  refine aO<|bW ⟨⟨_,rfl⟩,U.nm I i4 p1 p2 p3 u1 u2 u3,_,sn (sn t4 U.ne.2.1) U.ne.2.2,by simp;omega⟩
 obtain⟨⟨y,rfl⟩,H,F,t1,t2⟩:=hI;rw[bp] at H t2
 have fin:∀{s:aU}{y z:Option D},Md h (b+cn) (47+cn) st s pa ma ra->W (execs (calls tab<|k+3) [.app (.ix (.v 0)<|.c<|.str "pools")<|.v 4,.setix (.ix (.v 0)<|.c<|.str "given") (.v 2)<|.v 6,.ret<|.v 7] [rf h.s,rf h.l,nt (i:Int),rf en,rf pa,x,rf ma,rf ra,y,z] s) (Kr Q):=λ{s y z} m=>by
  have B:=q0.dr m.dr m.dx;have d:=m.dx;obtain⟨a,hs⟩:=d.sd;obtain⟨kv,hk,ko,kl⟩:=d.kd;obtain⟨nl,hlf⟩:=d.lf;obtain⟨gv,g1,g2,g3⟩:=B.gv;obtain⟨pl,l1,l2,l3⟩:=B.pl;obtain⟨ns,p1,p2,p3⟩:=m.po;obtain⟨ms,u1,u2,u3⟩:=m.mi;obtain⟨F,r1,r2⟩:=m.ro;have hPst:h.P<st.length:=by obtain⟨pl',e,_⟩:=q0.pl;exact(aq e).1
  have J:∀{n:Nat}{kv:List (Key×D)}{xs:List D}{m:Nat},s[n]? =dt kv->s[m]? =ls xs->n≠m:=λe1 e2 z=>by rw[z,e2] at e1;cases e1
  refine dJ<|be<|aH rfl<|aV<|c5 hs rfl<|ce l1<|aH rfl<|bU l1 (by rw[length_map];omega) ?_
  have hsP:=J hs l1;have hGP:=J g1 l1;have hKP:=J hk l1;refine eE<|aH rfl<|be<|aH rfl<|aV<|c5 (sn hs hsP.symm) rfl<|aH rfl<|cy (sn g1 hGP.symm) rfl (by omega) ?_
  have keep:∀{n:Nat}{o:O},s[n]? =some o->n≠h.P->n≠h.G->((s.set h.P<|.lst<|pl.map .ref++[.ref pa]).set h.G<|.dct<|bD gv (.inl (i:Int))<|.ref ma)[n]? =some o:=λe h1 h2=>sn (sn e h1.symm) h2.symm
  have hP2:((s.set h.P<|.lst<|pl.map .ref++[.ref pa]).set h.G<|.dct<|bD gv (.inl (i:Int))<|.ref ma)[h.P]? =ls ((pl++[pa]).map .ref):=by rw[map_append];exact sn (bB (aq l1).1) hGP
  have hG2:((s.set h.P<|.lst<|pl.map .ref++[.ref pa]).set h.G<|.dct<|bD gv (.inl (i:Int))<|.ref ma)[h.G]? =dt (bD gv (.inl (i:Int))<|.ref ma):=bB (by rw[aA];exact(aq g1).1)
  have hlen:((s.set h.P<|.lst<|pl.map .ref++[.ref pa]).set h.G<|.dct<|bD gv (.inl (i:Int))<|.ref ma).length=s.length:=by rw[aA,aA]
  have Y:∀n,n≠h.G->n≠h.P->((s.set h.P<|.lst<|pl.map .ref++[.ref pa]).set h.G<|.dct<|bD gv (.inl (i:Int))<|.ref ma)[n]? =s[n]?:=λn h1 h2=>by rw[aD h1.symm,aD h2.symm]
  generalize (s.set h.P<|.lst<|pl.map .ref++[.ref pa]).set h.G (.dct<|bD gv (.inl (i:Int))<|.ref ma)=s9 at keep hP2 hG2 hlen Y;have lk:∀{a:Nat}{xs:List D},Lk h s a xs->Lk h s9 a xs:=λe=>⟨keep e.1 e.2.2 (J g1 e.1).symm,e.2⟩;have ik:∀{ns:List Int},InK s h.K ns->InK s9 h.K ns:=λ⟨kv',e,w⟩=>⟨kv',keep e (J e l1) B.ne.2.1.symm,w⟩;have nm:∀{a c:Nat},Nm h s a c->Nm h s9 a c:=λ⟨ns,e1,e2,e3⟩=>⟨ns,lk e1,e2,ik e3⟩;have X9:Dx h (b+3) s9:=⟨⟨nl,keep hlf B.ne.2.2.symm (J g1 hlf).symm⟩,⟨a,keep hs hsP B.ne.1.symm⟩,⟨kv,keep hk hKP B.ne.2.1.symm,ko,by omega⟩,d.ne⟩
  have newP:Nm h s pa 100:=⟨ns,⟨p1,(m.nn I m.up.1 p1).1,by have:=m.up.1;omega⟩,by omega,p3⟩
  have newG:Nm h s ma 5:=⟨ms,⟨u1,(m.nn I m.up.2.1 u1).1,by have:=m.up.2.1;omega⟩,by omega,u3⟩
  obtain⟨as,a1,a2,a3⟩:=B.pr;obtain⟨rs,o1,o2,o3⟩:=B.ov;refine ba<|aH rfl<|bc<|q F ra s9 ⟨X9,⟨as,lk a1,a2,λj a ns x y=>⟨lk (a3 j a ns x y).1,(a3 j a ns x y).2.1,ik (a3 j a ns x y).2.2⟩⟩,⟨rs,lk o1,o2,λj r ws x y=>lk<|o3 j r ws x y⟩,⟨_,hG2,?_,λo ho=>?_⟩,⟨pl++[pa],hP2,by simp[l2],λj a hj=>?_⟩,B.ne⟩ ⟨?_,λn hn h1 h2 h3 h4 h5=>?_⟩ m.up.2.2<|keep r1 (by have:=m.up.2.2;omega) (J g1 r1).symm
  .have:=mq gv (.inl (i:Int))<|.ref ma;omega
  .rw[gH];by_cases e:o=i
   .subst e;rw[if_pos rfl];exact⟨ma,rfl,nm newG⟩
   .rw[if_neg<|λz=>e (ofNat_inj.mp<|Sum.inl.inj z).symm];obtain⟨a,e1,e2⟩:=g3 o (by omega)
    exact⟨a,e1,nm e2⟩
  .by_cases hj2:j<pl.length
   .rw[aB hj2] at hj;exact nm<|l3 j a hj
   .have hj3:j=pl.length:=by have:=(aq hj).1;simp at this;omega
    subst hj3;rw[az<|aa _,sub_self] at hj;cases hj;exact nm newP
  .rw[hlen];exact m.dr.le
  .rw[Y n h4 h5];exact m.dr.same n hn h1 h2 h3
 refine a6<|cr<|bi<|aY<|bC<|ac<|aH rfl<|am<|du H.dx λv s3 D3 X3=>aV<|w_mod (by decide)<|aV<|k9 ⟨_,rfl,λz1=>?_,λz1=>aO<|a6<|fin<|H.next I D3 X3⟩
 have m3:=H.next I D3 X3
 have g4:Gr s3 (s3++[O.lst [kN,kT]]):= .one _ _;have U:=m3.next I (.gr g4)<|m3.dx.gr g4
 refine aW<|be<|bw<|ac<|bo<|ac<|aV<|am<|ac<|bo<|ac<|aV<|am<|am ?_;refine aY<|bC<|ac<|aH rfl<|am<|du U.dx λv2 s5 D5 X5=>aV<|w_mod (by decide) ?_
 obtain⟨dd,h2,h3⟩:=eR (xs:=[kN,kT]) (i:=v2) (by decide)
 have hkd:Kd dd:=by simp only[mem_cons,mem_nil_iff,or_false] at h3;exact h3.elim .inl λz=>.inr<|.inl z
 refine bI (m3.dx.new D5 m3.dx.lf) h2 ?_;have m5:=U.next I D5 X5
 obtain⟨ns,p1,p2,p3⟩:=m5.po;have t5:=D5.lst U.dx (g4.at<|D3.lst H.dx t1 (H.nn I H.up.2.2 t1).1) (H.nn I H.up.2.2 t1).1;refine dJ<|aH rfl<|ce t5<|dI<|ac<|aV<|ac<|aV<|ac<|aV<|ac<|bw<|ac<|bC<|ac<|aH rfl<|ac<|aH rfl<|ac<|aH rfl<|ac<|aH rfl<|am<|dS m5.dx hkd p1 (by omega) p3 λo s6 D6 X6=>am<|am<|oB (cH aG) ⟨rfl,?_⟩
 have m6:=m5.next I D6 X6
 have t6:=D6.lst m5.dx t5 (H.nn I H.up.2.2 t1).1;have g7:Gr s6 (s6++[O.lst [o]]++[.ins "Row" [("name",.non),("op",.str "log"),("extra",.non),("operands",.tup [o])]]):=(Gr.one _ _).more _;have m7:=m6.next I (.gr g7)<|m6.dx.gr g7
 exact bU (g7.at t6) (by omega)<|aO<|a6<|fin<|m7.row I (g7.at t6) (by omega)
theorem ER{i:Nat}(hi:i<n)(c:n<=9):((-1000000:Int)<=(i:Int)/\(i:Int)<=1000000)/\(-1000000:Int)<=(n:Int)/\(n:Int)<=1000000:=by omega
theorem CT{i:Nat}:((n:Int) - (i:Int)).toNat=n - i:=by omega
theorem CU{b:Nat}(h1:a<=2+5*j)(h2:b<=5)(z:j<w)(c:w<=9):a+b<=1000000:=by omega
theorem AO{b:Nat}(h1:a<=2+5*j)(h2:b<=5):a+b<=2+5*(j+1):=by omega
theorem ES(h1:a<=2+5*w)(c:w<=9):a<=47:=by omega
theorem EQ(h:a<=2):a+60<=47+15:=by omega
theorem CV{i:Nat}(h:a=n - i)(c:n<=9):a<=1000000:=by omega
theorem CW{i:Nat}(h:j<n - i):i+j<n:=by omega
theorem Ae(H:By h b ps Os i st)(hb:b<900)(hi:i<ps.length)(h9:ps.length<=9)(hO:Os.length=ps.length)(hov:∀o∈wf Os i,o<i)(Z:(wf Os i).length<=9)(hW:Ws.length=ps.length)(he:wU h st en Ws)
  (q:∀rws m st1,By h (b+3) ps Os (i+1) st1->D2 h st st1->st.length<=m->st1[m]? =ls rws->Q (.ref m) st1):Wv (calls tab (k+4) oA [.ref h.s,.ref h.l,.int (i:Int),.ref en] st) Q:=by
 obtain⟨a,hs⟩:=H.dx.sd;obtain⟨as,a1,a2,a3⟩:=H.pr;obtain⟨rs,o1,o2,o3⟩:=H.ov;have hz1:i<as.length:=by rw[a2];exact hi
 have hai:as[i]? =some as[i]:=af hz1;have hpi:ps[i]? =some ps[i]:=af hi;obtain⟨b1,b2,b3⟩:=a3 i _ _ hai hpi;have hz2:i<rs.length:=by rw[o2,hO];exact hi
 have hri:rs[i]? =some rs[i]:=af hz2;have hz3:i<Os.length:=by rw[hO];exact hi
 have hOi:Os[i]? =some Os[i]:=af hz3;have c1:=o3 i _ _ hri hOi;rw[<-eY hOi] at c1;generalize hws:wf Os i=ws at hov Z c1
 walk_at "call0"
 refine aW<|bL<|ac<|be<|be<|aH rfl<|aV<|c5 hs rfl<|aH rfl<|bI a1.1 (bK (by rw[aj,hai];rfl))<|am<|qk b1.1 ?_
 have U:Gr st (st++[O.lst<|ps[i].map .int]):= .one _ _;have q1:=H.gr U;have hl1:(st++[O.lst<|ps[i].map .int])[st.length]? =ls (ps[i].map .int):=aG;have hk1:InK (st++[O.lst<|ps[i].map .int]) h.K ps[i]:=b3.gr U;obtain⟨s1,hs1⟩:∃s1,s1=st++[O.lst<|ps[i].map .int]:=⟨_,rfl⟩;show W (execs _ _ _<|st++[O.lst<|ps[i].map .int]) _;rw[<-hs1] at U q1 hl1 hk1 ⊢;refine dk<|be<|be<|aH rfl<|aV<|c5 (U.at hs) rfl<|aH rfl<|bI (U.at o1.1) (bK (by rw[aj,hri];rfl)) ⟨_,rfl,?_⟩
 have hL:bG (.at rs[i]) s1=((zs ws).map D.int).length:=by simp only[bG,U.at c1.1]
 refine cj (L:=(zs ws).map .int) (by rw[hL];exact aa _) (λj loc s=>Gr st s/\∃pa x,loc=[rf h.s,rf h.l,nt (i:Int),rf en,rf pa,x,none,none,none,none]/\st.length<=pa/\∃ns:List Int,s[pa]? =ls (ns.map .int)/\ns.length<=2+5*j/\InK s h.K ns)
  ⟨U,_,_,rfl,aa _,_,hl1,b2,hk1⟩ (λj loc s J=>by simp only[nxt,J.1.at c1.1]) (λj z loc s hz J=>?_) λloc s J=>?_
 .obtain⟨F,pa,x,rfl,hpa,ns,d1,d2,d3⟩:=J;obtain⟨o,ho,rfl⟩:=lX hz;have hj:j<ws.length:=(aq ho).1;have qs:=H.gr F;obtain⟨gv,U,g2,I⟩:=qs.gv;obtain⟨ga,v1,ms,v2,v3,v4⟩:=I o<|hov o<|ag ho;refine aW (aY<|aH rfl<|be<|be<|aH rfl<|aV<|c5 (F.at hs) rfl<|aH rfl<|eP U v1<|jQ d1 v2.1 (by rw[length_map,length_map];exact CU d2 v3 hj Z) ?_)
  refine aO<|bW ⟨F.more _,_,_,rfl,F.le,ns++ms,?_,by rw[aE];exact AO d2 v3,?_⟩
  .rw[map_append];exact aG
  .obtain⟨kv,e1,w1⟩:=d3;obtain⟨kv',e2,w2⟩:=v4;rw[e1] at e2;cases e2;exact⟨kv,aZ e1,λn hn=>(mem_append.mp hn).elim (w1 n)<|w2 n⟩
 obtain⟨F,pa,x,rfl,hpa,ns,d1,d2,d3⟩:=J;rw[bA] at d2;have c:h.l<st.length:=by obtain⟨nl,e⟩:=H.dx.lf;exact(aq e).1
 have Y:pa<s.length:=(aq d1).1;refine a6<|aW<|bL<|ac<|be<|be<|aH rfl<|aV<|c5 (F.at hs) rfl<|aH rfl<|bI (F.at a1.1) (bK (by rw[aj,hai];rfl))<|am<|qk (F.at b1.1) ?_
 refine aW<|bw<|am ?_;have gt:Gr s (s++[O.lst<|ps[i].map .int]++[O.lst []]):=(Gr.one _ _).more _;have g2:Gr st (s++[O.lst<|ps[i].map .int]++[O.lst []]):=F.trans gt;have e1:(s++[O.lst<|ps[i].map .int]).length=s.length+1:=by simp
 have B:(s++[O.lst<|ps[i].map .int]++[O.lst []])[s.length+1]? =ls []:=by rw[<-e1];exact aG
 have hma:(s++[O.lst<|ps[i].map .int]++[O.lst []])[s.length]? =ls (ps[i].map .int):=aZ aG;have Y:pa<s.length:=(aq d1).1;have m2:Md h b 47 st (s++[O.lst<|ps[i].map .int]++[O.lst []]) pa s.length (s.length+1):=⟨.gr g2,H.dx.gr g2,⟨ns,gt.at d1,ES d2 Z,d3.gr gt⟩,⟨ps[i],hma,EQ b2,b3.gr g2⟩,⟨[],B,by simp⟩,⟨hpa,F.le,Nat.le_succ_of_le F.le⟩,aw Y,aw<|lt_succ_of_lt Y,aw<|aJ _⟩
 rw[e1];generalize s++[O.lst<|ps[i].map .int]++[O.lst []]=s2 at g2 m2 B gt;obtain⟨es,w1,w2,w3⟩:=he.dr H.dx m2.dr;have hel:((Ws.zip es).map λp=>D.tup [.str p.1.1,.ref p.2]).length=ps.length:=by rw[length_map,length_zip,w2,Nat.min_self,hW]
 refine cr<|bi<|xb<|aH rfl<|bL<|ac<|aH rfl<|am<|cU w1.1 ⟨.its<|c8 (i:Int)<|ps.length - i,?_,?_⟩
 .rw[hel];simp only[jA];rw[if_pos<|ER hi h9,CT]
 have hfl:(c8 (i:Int)<|ps.length - i).length=ps.length - i:=by simp[c8]
 refine b5 (L:=c8 (i:Int)<|ps.length - i) (CV hfl h9) (aa _) (λ_ _ s'=>s'=s2) rfl (λ_ _ _ _=>rfl) (λj v acc s' hv J=>?_) λacc s' J=>?_
 .subst J;have hj:j<ps.length - i:=by rw[<-hfl];exact(aq hv).1
  have hvj:v=.int ((i+j:Nat):Int):=by
   have:(c8 (i:Int)<|ps.length - i)[j]? =nt ((i:Int)+(j:Int)):=by simp[c8,hj]
   rw[this] at hv;cases hv;rfl
  subst hvj;have z1:i+j<Ws.length:=by rw[hW];exact CW hj
  have z2:i+j<es.length:=by rw[w2];exact z1
  have y1:Ws[i+j]? =some Ws[i+j]:=af z1;have y2:es[i+j]? =some es[i+j]:=af z2;have y3:=w3 (i+j) _ _ y2 y1;refine iR<|bi<|aH rfl<|be<|be<|aH rfl<|aH rfl<|bI w1.1 (bK (by rw[aj,show(Ws.zip es)[i+j]? =some (_,_) from List.getElem?_zip_eq_some.mpr ⟨y1,y2⟩];rfl))<|aV<|dg rfl<|tU y3.1 (nj _) ⟨_,rfl,λ_=>aH rfl rfl,λ_=>rfl⟩
 .subst J;refine bw (am<|jO (jc (aZ aG) aG) ⟨_,rfl,λz=>?_,λz=>?_⟩)
  .have I:Gr s' (s'++[O.lst acc]++[O.lst []]):=(Gr.one _ _).more _;have m3:=m2.next c (.gr I) (m2.dx.gr I)
   refine dJ<|aH rfl<|ce (I.at B)<|dI<|ac<|aV<|ac<|aV<|ac<|aV<|ac<|bw<|am<|am<|oB (cH aG) ⟨rfl,?_⟩;have g4:Gr (s'++[O.lst acc]++[O.lst []]) (s'++[O.lst acc]++[O.lst []]++[O.lst []]++[.ins "Row" [("name",.non),("op",.str "tick"),("extra",.non),("operands",.tup [])]]):=(Gr.one _ _).more _;have m4:=m3.next c (.gr g4)<|m3.dx.gr g4
   have t4:=g4.at<|I.at B;refine bU t4 (by simp)<|aO<|a6<|lS H c hb (ao hi h9) (m4.row c t4 (by simp)) ⟨_,bB (aq t4).1,by simp⟩ q
  .have I:Gr s' (s'++[O.lst acc]++[O.lst []]):=(Gr.one _ _).more _;exact aO<|a6<|lS H c hb (ao hi h9) (m2.next c (.gr I)<|m2.dx.gr I) ⟨_,I.at B,zero_le _⟩ q
end
section
variable{k b:Nat}{h:Sh}{st st1:aU}{Q:D->aU->Prop}
structure D3(h:Sh)(st st':aU):Prop where
 le:st.length<=st'.length
 same:∀i,i<st.length->i≠h.l->i≠h.s->i≠h.K->i≠h.A->st'[i]? =st[i]?
theorem Dr.d3(r:Dr h st st1):D3 h st st1:=⟨r.le,λi hi h1 h2 c _=>r.same i hi h1 h2 c⟩
theorem D3.trans{a b:aU}(x:D3 h a b)(y:D3 h b c):D3 h a c:=⟨aM x.le y.le,λi hi h1 h2 B z=>(y.same i (ao hi x.le) h1 h2 B z).trans<|x.same i hi h1 h2 B z⟩
theorem D3.set{a b:aU}(x:D3 h a b):D3 h a (b.set h.A o):=⟨by rw[aA];exact x.le,λi hi h1 h2 z c=>by rw[aD c.symm];exact x.same i hi h1 h2 z c⟩
def Pp(h:Sh)(st:aU)(ps:List (List Int)):Prop:=∃as:List Nat,st[h.A]? =ls (as.map .ref)/\as.length=ps.length/\∀(j a:Nat)(ns:List Int),as[j]? =some a->ps[j]? =some ns->(st[a]? =ls (ns.map .int)/\a≠h.l/\a≠h.A/\h.A<a)/\ns.length<=2/\InK st h.K ns
theorem Pp.dr{ps:List (List Int)}(q:Pp h st ps)(d:Dx h b st)(I:h.A≠h.l)(r:Dr h st st1):Pp h st1 ps:=by obtain⟨as,Y,U,J⟩:=q;refine⟨as,r.lst d Y I,U,λj a ns x y=>?_⟩;obtain⟨⟨H,c,F⟩,B,z⟩:=J j a ns x y;exact⟨⟨r.lst d H c,c,F⟩,B,r.mono ns z⟩
def K2(st:aU)(m:Nat):Prop:=∃ks:List D,st[m]? =ls ks/\ks.length<=2/\∀d∈ks,Kd d
theorem wX(d:Dx h b st)(hb:b<900)(hm:K2 st m)(F:m≠h.l)(h4:loc[4]? =some (rf h.s))(h0:loc[0]? =some (rf h.l))(h6:loc[6]? =some (rf m))
  (q:∀(ns:List Int) s1,ns.length<=2->Dr h st s1->Dx h (b+2) s1->InK s1 h.K ns->Q (.ref s1.length) (s1++[.lst<|ns.map .int])):W (run (calls tab<|k+2) (.comp .seq false (.v 6) (.c<|.non) false<|.fn 17 [.v 5,.v 1,.v 0]) loc st) Q:=by
 obtain⟨ks,Z,e2,e3⟩:=hm;have Y:bG (.at m) st=ks.length:=by simp only[bG,Z]
 refine bN<|aH h6 ⟨_,rfl,?_⟩
 refine b5 (L:=ks) (by rw[Y];omega) (by rw[Y];exact aa _) (λi acc s=>Dr h st s/\Dx h (b+i) s/\∃ns:List Int,acc=ns.map .int/\ns.length=i/\InK s h.K ns)
  ⟨.gr<|.refl _,d,[],rfl,rfl,by obtain⟨kv,e,_⟩:=d.kd;exact⟨kv,e,λn hn=>nomatch hn⟩⟩ (λi acc s z=>by simp only[nxt,z.1.lst d Z F]) (λi x acc s U z=>?_) λacc s z=>?_
 .obtain⟨I,H,ns,rfl,J,B⟩:=z;have hi:=(aq U).1;refine cz (bC<|ac<|aH (by simpa using h4)<|ac<|aH (by simpa using h0)<|ac<|aH rfl<|am<|s_fresh H (e3 x<|ag U) (by omega) λn s2 D2 X2 i2=>?_)
  exact⟨I.trans D2,X2,ns++[n],by simp,by simp[J],(D2.mono ns B).snoc i2⟩
 .obtain⟨I,H,ns,rfl,J,B⟩:=z;obtain⟨lf,sd,⟨kv,k1,k2,k3⟩,ne⟩:=H;exact q ns s (by omega) I ⟨lf,sd,⟨kv,k1,k2,by omega⟩,ne⟩ B
end
section
variable{k en:Nat}{h:Sh}{st:aU}{Ws:List (Str×List Nat)}
theorem tO(d:Dx h 0 st)(hA0:st[h.A]? =ls [])(hA:h.A≠h.l)(hn:Ws.length<=6)(htk:tk.length<=2/\∀d∈tk,Kd d)(hE:∀F,D3 h st F->wU h F en Ws)
  (q:∀ps F Z Y,ps.length=Ws.length->Dx h (2*Ws.length) F->Pp h F ps->D3 h st F->W (execs (calls tab<|k+2) ss [rf h.l,some<|.tup tk,ca,rf en,rf h.s,Z,Y,x7,x8,x9] F) Q):
  W (execs (calls tab<|k+2) (vV::ss) [rf h.l,some<|.tup tk,ca,rf en,rf h.s,x5,x6,x7,x8,x9] st) Q:=by
 unfold vV;obtain⟨es,w1,w2,w3⟩:=hE st ⟨aa _,λ_ _ _ _ _ _=>rfl⟩;have hel:((Ws.zip es).map λp=>D.tup [.str p.1.1,.ref p.2]).length=Ws.length:=by rw[length_map,length_zip];omega
 refine dk<|bL<|ac<|aH rfl<|am<|cU w1.1 ⟨_,bS (by omega),?_⟩
 rw[toNat_natCast,hel]
 refine cj (L:=bx Ws.length) (aa _) (λj loc s=>(∃Z Y,loc=[rf h.l,some<|.tup tk,ca,rf en,rf h.s,Z,Y,x7,x8,x9])/\Dx h (2*j) s/\D3 h st s/\∃ps,ps.length=j/\Pp h s ps)
  ⟨⟨_,_,rfl⟩,d,⟨aa _,λ_ _ _ _ _ _=>rfl⟩,[],rfl,[],hA0,rfl,λj a ns x=>by simp at x⟩ (λ_ _ _ _=>rfl) (λj v loc s hv hI=>?_) λloc s hI=>?_
 .obtain⟨⟨Z,Y,rfl⟩,X0,D0,ps,p1,p2⟩:=hI;obtain⟨hj,rfl⟩:=fk hv;have hAl:h.A<st.length:=(aq hA0).1
  have fin:∀{F:aU}{m:Nat},Dr h s F->Dx h (2*j) F->K2 F m->m≠h.l->W (execs (calls tab<|k+2) [.app (.ix (.v 4)<|.c<|.str "params")<|.comp .seq false (.v 6) (.c<|.non) false<|.fn 17 [.v 5,.v 1,.v 0]] [rf h.l,some<|.tup tk,ca,rf en,rf h.s,nt (j:Int),rf m,x7,x8,x9] F) (Kf (λloc s=>(∃Z Y,loc=[rf h.l,some<|.tup tk,ca,rf en,rf h.s,Z,Y,x7,x8,x9])/\Dx h (2*(j+1)) s/\D3 h st s/\∃ps,ps.length=j+1/\Pp h s ps)<|Kn (calls tab<|k+2) ss Q):=λ{F m} D1 X1 hm hml=>by
   obtain⟨a,hs⟩:=X1.sd;have P1:=p2.dr X0 hA D1;obtain⟨as,e1,e2,e3⟩:=P1;refine dJ<|be<|aH rfl<|aV<|c5 hs rfl<|ce e1<|wX X1 (by omega) hm hml rfl rfl rfl λns B n1 D2 U n2=>?_
   have P2:=(p2.dr X0 hA D1).dr X1 hA D2;have H:Gr B (B++[O.lst<|ns.map .int]):= .one _ _;obtain⟨as,e1,e2,e3⟩:=P2;have e1':=H.at e1;have nA:=(U.gr H).nlst e1';refine bU e1' (by rw[length_map];omega)<|aO<|bW ⟨⟨_,_,rfl⟩,(U.gr H).set hA nA.1 nA.2,(D0.trans ((D1.trans D2).trans<|.gr H).d3).set,ps++[ns],by simp[p1],as++[B.length],?_,by simp[e2],?_⟩
   .rw[bB (aq e1').1,map_append];rfl
   .have hAs2:h.A<B.length:=(aq e1).1
    exact um (P:=λ_ a n'=>((((B++[O.lst<|ns.map .int]).set h.A<|.lst<|as.map .ref++[.ref B.length])[a]? =ls (n'.map .int))/\a≠h.l/\a≠h.A/\h.A<a)/\n'.length<=2/\InK ((B++[O.lst<|ns.map .int]).set h.A<|.lst<|as.map .ref++[.ref B.length]) h.K n') e2 (λj' a n' x y=>by
     obtain⟨⟨u1,u2,u3,u6⟩,u4,u5⟩:=e3 j' a n' x y;exact⟨⟨sn (H.at u1) u3.symm,u2,u3,u6⟩,u4,(u5.gr H).set nA.2⟩) ⟨⟨sn aG (by omega),U.new_ne<|aa _,by omega,hAs2⟩,n1,(n2.gr H).set nA.2⟩
  refine aW<|bN<|aY<|bC<|ac<|aH rfl<|am<|du X0 λw F D1 X1=>aV<|w_mod (by decide) ⟨_,bS (by have:=emod_nonneg w (show(3:Int)≠0 by decide);have:=bm w (show(0:Int)<3 by decide);omega),?_⟩
  have hw0:=emod_nonneg w (show(3:Int)≠0 by decide)
  have hw1:=bm w (show(0:Int)<3 by decide)
  generalize hcn:(w % 3).toNat=cn;have hcn3:cn<=2:=by omega
  clear hcn hw0 hw1;refine gG (L:=bx cn) (λ_ y=>Kd y) X1 (by show(bx cn).length<=1000000;rw[bp];omega) (aa _) (λ_ _ _=>rfl) (λi x B hx D2 U=>?_) λks B hkl hks D2 U=>?_
  .have H:Gr B (B++[.lst [kN,kT]]):= .one _ _;refine cz<|be<|bw<|ac<|bo<|ac<|aV<|am<|ac<|bo<|ac<|aV<|am<|am ?_;refine aY (bC<|ac<|aH rfl<|am<|du (U.gr H) λv2 s5 D5 X5=>aV<|w_mod (by decide) ?_)
   obtain⟨dd,h2,h3⟩:=eR (xs:=[kN,kT]) (i:=v2) (by decide)
   refine bI (U.new D5 U.lf) h2 ⟨⟨dd,rfl,?_⟩,(Dr.gr H).trans D5,X5⟩;simp only[mem_cons,mem_nil_iff,or_false] at h3;exact h3.elim .inl λz=>.inr<|.inl z
  rw[bp] at hkl;have H:Gr B (B++[.lst ks]):= .one _ _;have I:=(D1.trans D2).trans (.gr H);have X3:=U.gr H;have hkm:∀d∈ks,Kd d:=λd hd=>by obtain⟨i,hi⟩:=List.getElem?_of_mem hd;exact hks i d hi
  have hk3:(B++[O.lst ks])[B.length]? =ls ks:=aG;have hkl3:B.length≠h.l:=U.new_ne<|aa _;generalize B++[O.lst ks]=s3 at I X3 hk3;refine cr<|bi<|aH rfl<|aV<|k9 ⟨_,rfl,λz=>?_,λz=>?_⟩
  .refine aW<|bL<|ac<|aH rfl<|am<|wY ?_;have J:Gr s3 (s3++[O.lst tk]):= .one _ _;exact aO<|a6<|fin (I.trans<|.gr J) (X3.gr J) ⟨tk,aG,htk⟩<|X3.new_ne<|aa _
  .have hj0:j≠0:=λe=>by subst e;simp at z
   obtain⟨es,w1,w2,w3⟩:=hE s3<|D0.trans I.d3;have y1:Ws[j - 1]? =some (Ws[j - 1]'(by omega)):=af (by omega)
   have y2:es[j - 1]? =some (es[j - 1]'(by omega)):=af (by omega)
   have hjj:(j:Int) - 1=((j - 1:Nat):Int):=by omega
   obtain⟨bb,hbb⟩:=kP (t:=(Ws[j - 1]'(by omega)).1) ["risk","call"]
   refine cr<|bi<|be<|be<|aH rfl<|aY<|aH rfl<|aV<|w_sub ?_;rw[hjj];refine bI w1.1 (bK (by rw[aj,show(Ws.zip es)[j - 1]? =some (_,_) from List.getElem?_zip_eq_some.mpr ⟨y1,y2⟩];rfl))<|aV<|dg rfl<|bw<|ac<|aV<|ac<|aV<|am<|tU aG hbb ⟨_,rfl,λ_=>?_,λ_=>aO<|a6<|aO<|a6 ?_⟩
   .have J:Gr s3 (s3++[O.lst<|(["risk","call"]:List Str).map .str]):= .one _ _;have X4:=X3.gr J;have D4:=I.trans<|.gr J;have hk4:=J.at hk3;show W (execs _ _ _<|s3++[O.lst<|(["risk","call"]:List Str).map .str]) _;generalize s3++[O.lst<|(["risk","call"]:List Str).map .str]=s4 at X4 D4 hk4;refine aW<|aY<|bw<|ac<|bo<|ac<|aV<|am<|am<|o5<|aH rfl<|aV ⟨1,rfl,nE (aZ hk4) ?_⟩;have g5:Gr s4 (s4++[O.lst [kN]]++[O.lst<|cutD ks none<|some 1]):=(Gr.one _ _).more _
    have hc1:(cutD ks none<|some 1).length<=1:=by unfold cutD;rw[show(some 1:Option Int)=some ((1:Nat):Int) from rfl,HT.iu,HT.ir,length_take];omega
    have hc2:∀d∈cutD ks none (some 1),Kd d:=λd hd=>hkm d<|List.mem_of_mem_drop<|List.mem_of_mem_take hd;refine jQ (aZ aG) aG (by simp;omega)<|aO<|a6<|aO<|a6<|fin (D4.trans<|.gr<|g5.more _) (X4.gr<|g5.more _) ⟨_,aG,by simp;omega,λd hd=>?_⟩<|X4.new_ne (by simp only[length_append,length_cons,length_nil];omega)
    rcases mem_append.mp hd with hd|hd
    .rw[mem_singleton.mp hd];exact .inl rfl
    .exact hc2 d hd
   .have J:Gr s3 (s3++[O.lst<|(["risk","call"]:List Str).map .str]):= .one _ _;exact fin (I.trans<|.gr J) (X3.gr J) ⟨ks,J.at hk3,by omega,hkm⟩ hkl3
 .obtain⟨⟨Z,Y,rfl⟩,X0,D0,ps,p1,p2⟩:=hI;rw[bp] at X0 p1;exact a6<|q ps s _ _ p1 X0 p2 D0
end
section
variable{k b en:Nat}{h:Sh}{st:aU}{Q:D->aU->Prop}{ps:List (List Int)}{Os:List (List Nat)}{Ws:List (Str×List Nat)}{loc:Loc}
theorem By.old(q:By h b ps Os 0 st):h.l<st.length/\h.s<st.length/\h.K<st.length/\h.G<st.length/\h.P<st.length:=by obtain⟨⟨J,H⟩,⟨a,F⟩,⟨kv,B,_⟩,_⟩:=q.dx;obtain⟨U,z,_⟩:=q.gv;obtain⟨I,c,_⟩:=q.pl;have f:∀{i:Nat}{o:O},st[i]? =some o->i<st.length:=λe=>(aq e).1;exact⟨f H,f F,f B,f z,f c⟩
theorem tX(q0:By h b ps Os 0 st)(hb:b<800)(h9:ps.length<=9)(hO:Os.length=ps.length)(J:∀i,i<ps.length->(∀o∈wf Os i,o<i)/\(wf Os i).length<=9)(hW:Ws.length=ps.length)(hE:∀H,D2 h st H->wU h H en Ws)
  (h0:loc[0]? =some (rf h.l))(h3:loc[3]? =some (rf en))(h4:loc[4]? =some (rf h.s))
  (q:∀(z:List Nat) H,By h (b+3*ps.length) ps Os ps.length H->D2 h st H->z.length=ps.length->(∀(j a:Nat),z[j]? =some a->st.length<=a/\∃F,H[a]? =ls F)->Q (.ref H.length) (H++[.lst<|z.map .ref])):
  W (run (calls tab<|k+4) (.comp .rng false (.bt .len [.v 3]) (.c<|.non) false<|.fn 20 [.v 5,.v 1,.v 0,.v 4]) loc st) Q:=by
 have old:=q0.old;obtain⟨es,w1,w2,w3⟩:=hE st ⟨aa _,λ_ _ _ _ _ _ _=>rfl⟩;have hel:((Ws.zip es).map λp=>D.tup [.str p.1.1,.ref p.2]).length=ps.length:=by rw[length_map,length_zip];omega
 refine bN<|bL<|ac<|aH h3<|am<|cU w1.1 ⟨_,bS (by omega),?_⟩
 rw[toNat_natCast,hel]
 refine b5 (L:=bx ps.length) (by show(bx ps.length).length<=1000000;rw[bp];omega) (aa _) (λi acc s=>By h (b+3*i) ps Os i s/\D2 h st s/\∃z:List Nat,acc=z.map .ref/\z.length=i/\∀(j a:Nat),z[j]? =some a->st.length<=a/\∃F,s[a]? =ls F)
  ⟨q0,⟨aa _,λ_ _ _ _ _ _ _=>rfl⟩,[],rfl,rfl,λj a x=>by simp at x⟩ (λ_ _ _ _=>rfl) (λi x acc s hx hI=>?_) λacc s hI=>?_
 .obtain⟨B,D,z,rfl,Y,Z⟩:=hI;obtain⟨hi,rfl⟩:=fk hx;refine cz (bC<|ac<|aH (by simpa using h4)<|ac<|aH (by simpa using h0)<|ac<|aH rfl<|ac<|aH (by simpa using h3)<|am<|Ae B (by omega) hi h9 hO (J i hi).1 (J i hi).2 hW (hE s D) λF m H B1 D1 hm hr=>?_)
  have hle:=D.le;refine⟨by rw[show b+3*(i+1)=b+3*i+3 by omega];exact B1,D.trans D1,z++[m],by simp,by simp[Y],λj a U=>?_⟩
  by_cases hj:j<z.length
  .rw[aB hj] at U;obtain⟨u1,I,u2⟩:=Z j a U;refine⟨u1,I,?_⟩;rw[D1.same a (aq u2).1 (by omega) (by omega) (by omega) (by omega) (by omega)]
   exact u2
  .have hj2:j=z.length:=by have:=(aq U).1;simp at this;omega
   subst hj2;rw[az<|aa _,sub_self] at U;cases U;exact⟨by omega,F,hr⟩
 .obtain⟨B,D,z,rfl,Y,Z⟩:=hI;rw[bp] at B Y;exact q z s B D Y Z
end
section
variable{k b en:Nat}{h:Sh}{st:aU}{Q:D->aU->Prop}{ps:List (List Int)}{Os:List (List Nat)}{Ws:List (Str×List Nat)}
theorem tY{U y6:Option D}{rl:Nat}{J:List Nat}(q0:By h b ps Os ps.length st)(h9:ps.length<=9)(hW:Ws.length=ps.length)(he:wU h st en Ws)(hwd:∀w∈Ws,Wd w.1 w.2/\∀t∈w.2,t<ps.length)(hrl:st[rl]? =ls (J.map .ref))(hrll:rl≠h.l)(hrr:J.length=ps.length)(hr:∀(j a:Nat),J[j]? =some a->a≠h.l/\∃F,st[a]? =ls F)
  (q:∀f G s1,Dr h st s1->Dx h b s1->dj s1 f G->G.map (λB=>B.e.fol)=Ws.map (·.2)->Q (.ref f) s1):
  W (execs (calls tab<|k+4) vZ [rf h.l,some<|.tup tk,ca,rf en,rf h.s,U,y6,rf rl,x8,x9] st) (Kr Q):=by
 unfold vZ;have d:=q0.dx;have hll:h.l<st.length:=by obtain⟨nl,e⟩:=d.lf;exact(aq e).1
 refine aW<|bw<|am ?_;have g1:Gr st (st++[O.lst []]):= .one _ _;obtain⟨es,w1,w2,w3⟩:=he;have hel:(Ws.zip es).length=ps.length:=by rw[length_zip];omega
 refine jz<|aH rfl ⟨_,rfl,?_⟩;generalize hX:((Ws.zip es).map λp=>D.tup [.str p.1.1,.ref p.2])=xs at w1;have Z:xs.length=ps.length:=by rw[<-hX,length_map,hel]
 have hL:bG (.en en) (st++[O.lst []])=xs.length:=by simp only[bG,aZ w1.1]
 have H:st.length≠h.l:=d.new_ne<|aa _
 refine cj (L:=dC 0 xs) (by rw[hL,cW];exact aa _) (λj loc s=>(∃U x9,loc=[rf h.l,some<|.tup tk,ca,rf en,rf h.s,U,y6,rf rl,rf st.length,x9])/\Dr h st s/\Dx h b s/\∃(bs:List Nat)(G:List Bl),s[st.length]? =ls (bs.map .ref)/\G.length=j/\gE s bs G/\G.map (λB=>B.e.fol)=(Ws.take j).map (·.2))
  ⟨⟨_,_,rfl⟩,.gr g1,d.gr g1,[],[],aG,rfl,⟨rfl,λj b e x=>by simp at x⟩,by simp⟩ (λj loc s hI=>by simp only[nxt,hI.2.1.lst d w1.1 w1.2.1,cJ,zero_add]) (λj z loc s hz hI=>?_) λloc s hI=>?_
 .obtain⟨⟨U,x9,rfl⟩,D,X,bs,G,t1,t2,t3,t4⟩:=hI;rw[cJ] at hz;obtain⟨v,hv,rfl⟩:=map_eq_some_iff.mp hz;rw[zero_add];have hj:j<ps.length:=by rw[<-Z];exact(aq hv).1
  have Y:j<Ws.length:=by rw[hW];exact hj
  have y1:Ws[j]? =some Ws[j]:=af Y;have hz2:j<es.length:=by rw[w2];exact Y
  have y2:es[j]? =some es[j]:=af hz2
  have hvj:v=.tup [.str (Ws[j]).1,.ref<|es[j]]:=by rw[<-hX,aj,show(Ws.zip es)[j]? =some (_,_) from List.getElem?_zip_eq_some.mpr ⟨y1,y2⟩] at hv;cases hv;rfl
  subst hvj;have y3:=(w3 j _ _ y2 y1).dr d D;have B:=q0.dr D X;obtain⟨as,a1,a2,a3⟩:=B.pr;obtain⟨pl,l1,l2,l3⟩:=B.pl;obtain⟨a,hs⟩:=X.sd;have hz3:j<as.length:=by rw[a2];exact hj
  have haj:as[j]? =some as[j]:=af hz3;have hpj:ps[j]? =some ps[j]:=af hj;obtain⟨b1,b2,b3⟩:=a3 j _ _ haj hpj;have hz4:j<pl.length:=by rw[l2];exact hj
  have hlj:pl[j]? =some pl[j]:=af hz4;obtain⟨pn,n1,n2,n3⟩:=l3 j _ hlj;have hz5:j<J.length:=by rw[hrr];exact hj
  have hrj:J[j]? =some J[j]:=af hz5;obtain⟨v1,F,v2⟩:=hr j _ hrj;have v3:=D.lst d v2 v1
  have hA:PrA h ps s:=⟨⟨as,a1.1,a2,λj a ns x y=>⟨(a3 j a ns x y).1.1,(a3 j a ns x y).1.2.1⟩⟩,a1.2.1,λns hn=>by
   obtain⟨i,hi⟩:=List.getElem?_of_mem hn;have hi':i<as.length:=by rw[a2];exact(aq hi).1
   obtain⟨_,u,w⟩:=a3 i _ ns (af hi') hi;exact⟨by omega,w⟩⟩
  have hwj:=hwd _<|ag y1;refine aP (show W (.ok [Ev.D.int (j:Int),Ev.D.tup [.str (Ws[j]).1,.ref<|es[j]]] s) _ from ?_);refine dJ<|aH rfl<|ce t1<|dI<|ac<|be<|be<|aH rfl<|aV<|c5 hs rfl<|aH rfl<|bI a1.1 (bK (by rw[aj,haj];rfl)) ?_
  refine ac<|be<|aH rfl<|aH rfl<|bI (D.lst d hrl hrll) (bK (by rw[aj,hrj];rfl)) ?_
  refine ac<|bC<|ac<|aH rfl<|ac<|aH rfl<|ac<|aH rfl<|ac<|aH rfl<|am<|z7 X hA hwj.1 hwj.2 l1 hlj n1.1 n1.2.1 (by omega) n3 y3.1 y3.2.1 λm e I D2 X2 hm he=>?_
  refine am<|yt (cH<|D2.lst X b1.1 b1.2.1) (cH<|D2.lst X v3 v1) ⟨rfl,?_⟩;have t5:=D2.lst X t1 H;have g3:Gr I (I++[.ins "Block"<|nc (.tup<|ps[j].map .int) (.tup F)<|.ref m]):= .one _ _;have t6:=g3.at t5;have nb:=(X2.gr g3).nlst t6;refine bU t6 (by rw[length_map,t3.1];omega)<|aO<|bW ⟨⟨_,_,rfl⟩,((D.trans D2).trans<|.gr g3).set (aa _) nb.2,(X2.gr g3).set H nb.1 nb.2,bs++[I.length],G++[⟨ps[j].length,F.length,e⟩],?_,by simp[t2],?_,?_⟩
  .rw[bB (aq t6).1,map_append];rfl
  .have k3:Ki I ((I++[Ev.O.ins "Block"<|nc (.tup<|ps[j].map .int) (.tup F)<|.ref m]).set st.length<|Ev.O.lst<|bs.map Ev.D.ref++[Ev.D.ref I.length]):=λm c fs e=>sn (g3.at e) λz=>by rw[<-z,t5] at e;cases e
   refine gE.snoc (t3.ki<|(D2.ki X).trans k3) ⟨ps[j].map .int,F,m,by simp,rfl,sn aG λz=>?_,hm.ki k3⟩
   have:=(aq t5).1;omega
  .rw[map_append,t4,take_snoc y1,map_append];simp[he]
 .obtain⟨⟨U,x9,rfl⟩,D,X,bs,G,t1,t2,t3,t4⟩:=hI;rw[cW,Z] at t2 t4;obtain⟨a,hs⟩:=X.sd;obtain⟨kv,hk,_⟩:=X.kd;refine a6<|ba<|dI<|ac<|aH rfl<|ac<|bo<|ac<|aV<|am<|ac<|be<|aH rfl<|aV<|c5 hs rfl<|ac<|aH rfl<|am<|A9 (ts:=tk) rfl hk (cH t1) λa b I f1 f2 f3 g2=>⟨rfl,bc ?_⟩;refine q _ G _ (D.trans<|.gr g2) (X.gr g2) ⟨_,_,_,_,bs,f1,t3.ki<|yz g2⟩ ?_;rw[t4,<-hW,take_length]
end
section
variable{n:Nat}{Ws:List (Str×List Nat)}{G:List Bl}
noncomputable abbrev tW(Ws:List (Str×List Nat)):List (List Nat):=Ws.map (·.2)
theorem ShOk.nxt(q:ShOk n Ws)(hi:i+1<n):i+1∈wf (tW Ws) i:=by
 have h1:Ws[i]? =some (Ws[i]'(by have:=q.ln;omega)):=af (by have:=q.ln;omega)
 obtain⟨T',e⟩:=q.nx i _ h1 hi;unfold wf;rw[aj,h1];show i+1∈(Ws[i]'(by have:=q.ln;omega)).2
 rw[e];exact .head _
theorem ShOk.below(q:ShOk n Ws){x:Nat}(z:x<n)(h:Po (tW Ws) x w):w<x:=by
 have key:∀y,y<n->y<w->Av (wf<|tW Ws) [w] y:=by
  intro y
  induction y with
  |zero=>intro _ hw;exact .zero (by simp;omega)
  |succ y ih=>intro c hw;exact .next (ih (by omega) (by omega)) (q.nxt c) (by simp;omega)
 by_cases e:w<x
 .exact e
 .have:=h.2;exact absurd (key x z (by omega)) h.1
theorem Di(q:ShOk n Ws)(e:G.map (λB=>B.e.fol)=tW Ws):GA G:=by
 have U:G.length=n:=by have:=congrArg List.length e;simp at this;rw[this];exact q.ln
 have z:∀B∈G,∃w∈Ws,B.e.fol=w.2:=λB c=>by
  have:B.e.fol∈tW Ws:=by rw[<-e];exact mem_map.mpr ⟨B,c,rfl⟩
  obtain⟨w,hw,e⟩:=mem_map.mp this;exact⟨w,hw,e.symm⟩
 have I:=q.n2;have H:=q.n6;refine⟨⟨by omega,by omega,λB c a F=>?_,λB c=>?_⟩,λx J=>?_⟩
 .obtain⟨w,hw,e⟩:=z B c;rw[e] at F;have:=(q.to w hw a F).2;omega
 .obtain⟨w,hw,e⟩:=z B c;rw[e];exact(q.wd w hw).le
 .induction x with
  |zero=>exact⟨_,.nil⟩
  |succ x ih=>
   obtain⟨l,w⟩:=ih (by omega)
   refine⟨_,.cons w<|rJ.mpr ?_⟩;show x+1∈wf (G.map λB=>B.e.fol) x;rw[e];exact q.nxt (by omega)
end
section
variable{k n en:Nat}{h:Sh}{st:aU}{Q:D->aU->Prop}{Ws:List (Str×List Nat)}{Os:List (List Nat)}{rs:List Nat}
structure Un(h:Sh)(st st':aU):Prop where
 le:st.length<=st'.length
 same:∀i,i<st.length->i≠h.l->i≠h.s->i≠h.K->i≠h.A->i≠h.G->i≠h.P->st'[i]? =st[i]?
theorem yB(d:Dx h 0 st)(U:st[h.A]? =ls [])(F:st[h.G]? =dt [])(hP0:st[h.P]? =ls [])
  (hO:st[h.O]? =ls (rs.map .ref))(hrs:rs.length=Os.length)(hOx:∀(j r:Nat)(ws:List Nat),rs[j]? =some r->Os[j]? =some ws->st[r]? =ls ((zs ws).map .int)/\r≠h.l/\r≠h.P/\r≠h.A)
  (nA:h.A≠h.l)(nP:h.P≠h.l)(hPA:h.P<h.A)(nG:h.G≠h.s/\h.G≠h.K)(Z:h.O≠h.l/\h.O≠h.P/\h.O≠h.A)(htk:tk.length<=2/\∀d∈tk,Kd d)
  (ok:ShOk n Ws)(hOl:Os.length=Ws.length)(hOo:∀x,x<Ws.length->wf Os x=al (Po (tW Ws) x) Ws.length)(hE:∀H,Un h st H->wU h H en Ws)
  (q:∀f G H,Un h st H->Lf H h.l->dj H f G->GA G->Q (.ref f) H):
  W (execs (calls tab<|k+4) (cq.body.drop 2) [rf h.l,some<|.tup tk,ca,rf en,rf h.s,x5,x6,x7,x8,x9] st) (Kr Q):=by
 dsimp only[cq,List.drop_succ_cons,List.drop_zero];have hln:=ok.ln;have hn2:=ok.n2;have hn6:=ok.n6;have hGl:h.G≠h.l:=λz=>by obtain⟨nl,e⟩:=d.lf;rw[<-z,F] at e;cases e
 have hGA:h.G≠h.A:=λz=>by rw[z,U] at F;cases F
 refine tO (k:=k+2) (Ws:=Ws) d U nA (by omega) htk (λs' D=>hE s' ⟨D.le,λi hi a b c e _ _=>D.same i hi a b c e⟩) λps B y5 y6 p1 X5 P5 I=>?_
 have at5:∀{i:Nat}{o:O},st[i]? =some o->i≠h.l->i≠h.s->i≠h.K->i≠h.A->B[i]? =some o:=λe h1 h2 h3 h4=>by rw[I.same _ (aq e).1 h1 h2 h3 h4];exact e
 have l5:∀{i:Nat}{xs:List D},st[i]? =ls xs->i≠h.l->i≠h.A->B[i]? =ls xs:=λe h1 h4=>at5 e h1 (d.nlst e).1 (d.nlst e).2 h4
 have B0:By h (2*Ws.length) ps Os 0 B:=by
  obtain⟨as,a1,a2,a3⟩:=P5
  have b1:∃as:List Nat,Lk h B h.A (as.map .ref)/\as.length=ps.length/\∀(j a:Nat)(ns:List Int),as[j]? =some a->ps[j]? =some ns->Lk h B a (ns.map .int)/\ns.length<=2/\InK B h.K ns:=by
   refine⟨as,⟨a1,nA,by omega⟩,a2,λj a ns x y=>?_⟩
   obtain⟨⟨v1,Y,v3,v4⟩,v5,v6⟩:=a3 j a ns x y;exact⟨⟨v1,Y,by omega⟩,v5,v6⟩
  have b2:∃rs:List Nat,Lk h B h.O (rs.map .ref)/\rs.length=Os.length/\∀(j r:Nat)(ws:List Nat),rs[j]? =some r->Os[j]? =some ws->Lk h B r ((zs ws).map .int):=by refine⟨rs,⟨l5 hO Z.1 Z.2.2,Z.1,Z.2.1⟩,hrs,λj r ws x y=>?_⟩;obtain⟨v1,Y,v3,v4⟩:=hOx j r ws x y;exact⟨l5 v1 Y v4,Y,v3⟩
  have b3:B[h.G]? =dt []:=at5 F hGl nG.1 nG.2 hGA;have b4:B[h.P]? =ls []:=l5 hP0 nP (by omega)
  exact⟨X5,b1,b2,⟨[],b3,aa _,λo ho=>absurd ho<|not_lt_zero _⟩,⟨[],b4,rfl,λj a x=>by simp at x⟩,nG.1,nG.2,nP⟩
 refine aW<|tX (k:=k) (Ws:=Ws) (en:=en) B0 (by omega) (by omega) (by omega) (λi hi=>?_) (by omega) (λs' D=>hE s' ⟨aM I.le D.le,λi hi a b c e f g=>?_⟩) rfl rfl rfl λrr J B6 D6 hrl hrr=>?_
 .rw[hOo i (by omega)]
  exact⟨λo ho=>ok.below (by omega) (jf.mp ho).2,aM (qg _ _) (by omega)⟩
 .rw[D.same i (ao hi I.le) a b c f g];exact I.same i hi a b c e
 have old:=B0.old;have g7:Gr J (J++[O.lst<|rr.map .ref]):= .one _ _;have U6:Un h st J:=⟨aM I.le D6.le,λi hi a b c e f g=>by rw[D6.same i (ao hi I.le) a b c f g];exact I.same i hi a b c e⟩
 have B7:=B6.gr g7;have hl6:=D6.le;have E7:wU h (J++[O.lst<|rr.map .ref]) en Ws:=(hE J U6).dr B6.dx (.gr g7);refine tY (k:=k) (Ws:=Ws) (en:=en) B7 (by omega) (by omega) E7 (λw hw=>⟨ok.wd w hw,λt ht=>?_⟩) aG (B6.dx.new_ne<|aa _) hrl (λj a ha=>?_) λf G s8 D8 X8 F8 e8=>?_
 .have:=(ok.to w hw t ht).2;omega
 .obtain⟨u1,rws,u2⟩:=hrr j a ha;exact⟨by omega,rws,aZ u2⟩
 have g8:=D8.le;refine q f G s8 ⟨by have:=U6.le;have:=g7.le;omega,λi hi a b c e f g=>?_⟩ X8.lf F8<|Di ok e8
 have h6:i<J.length:=ao hi U6.le;rw[D8.same i (ao h6 g7.le) a b c,aB h6];exact U6.same i hi a b c e f g
end
section
variable{k l:Nat}{st:aU}{Q:D->aU->Prop}
theorem fj{ca:Int}(hc:ca=0∨ca=1)(htk:tk.length<=2/\∀d∈tk,Kd d)(hl:Lf st l)(q:∀f G st1,Bu l st st1->Lf st1 l->dj st1 f G->GA G->Q (.ref f) st1):Wv (calls tab (k+5) jv [.ref l,.tup tk,.int ca] st) Q:=by
 have hll:l<st.length:=by obtain⟨nl,e⟩:=hl;exact(aq e).1
 walk_at "call0"
 refine aW<|bC<|ac<|aH rfl<|ac<|aH rfl<|am<|xz hc hl λn Ws en s1 u1 l1 ok sh=>?_;obtain⟨es,e1,e2,e3,e4,e5⟩:=sh;have hln:=ok.ln;have hn2:=ok.n2;have hn6:=ok.n6;refine aW<|iS<|ac<|aY<|bC<|ac<|aH rfl<|am<|iW l1 λw I u2 l2=>aV<|w_mod (by decide) ?_
 generalize w % 9=a0;have g2:Gr I (I++[O.dct []]):= .one _ _;have old:∀{i:Nat}{o:O},s1[i]? =some o->st.length<=i->(I++[O.dct []])[i]? =some o:=λe hi=>g2.at<|u2.at e (by omega)
 have Z:(tW Ws).length=n:=by rw[length_map];exact hln
 have hto:∀v f,f∈wf (tW Ws) v->f<(tW Ws).length:=λv f hf=>by
  unfold wf at hf;rw[aj] at hf;cases qv:Ws[v]? with
  |none=>rw[qv] at hf;cases hf
  |some x=>rw[qv] at hf;rw[Z];exact(ok.to x (ag qv) f hf).2
 have htw:∀v,(wf (tW Ws) v).length<=2:=λv=>by
  unfold wf;rw[aj];cases qv:Ws[v]? with
  |none=>exact zero_le _
  |some x=>exact(ok.wd x<|ag qv).le
 have hov:kU (I++[O.dct []]) en (tW Ws):=by
  refine⟨Ws.map λx=>.str x.1,es,?_,by simp,by simp[e2],λj r ts a b=>?_⟩
  .rw[old e1 e3]
   have:∀(Ws:List (Str×List Nat))(es:List Nat),(Ws.zip es).map (λp=>D.tup [.str p.1.1,.ref p.2])=((Ws.map λx=>D.str x.1).zip es).map λp=>.tup [p.1,.ref p.2]:=by
    intro Ws
    induction Ws with
    |nil=>intro es;rfl
    |cons x Ws ih=>
     intro es;cases es with
     |nil=>rfl
     |cons y es=>rw[zip_cons_cons,map_cons,map_cons,zip_cons_cons,map_cons,ih]
   rw[this]
  .rw[aj] at b;obtain⟨x,hx,rfl⟩:=map_eq_some_iff.mp b;exact old (e5 j r x a hx)<|e4 r<|ag a
 refine ac<|ql<|ac<|bC<|ac<|aH rfl<|am<|uC (by omega) hto htw hov λOa Os rs z g3 hO hL hOl hOx=>?_
 refine ac<|ql<|ac<|bw<|am<|ac<|bw<|am<|am ⟨⟨rfl,by decide+kernel⟩,?_⟩
 have l3:Lf z l:=by obtain⟨nl,e⟩:=l2;exact⟨nl,g3.at<|aZ e⟩
 have hK3:z[I.length]? =dt []:=g3.at aG;have hlt2:I.length<z.length:=(aq hK3).1;have hle1:=u1.le;have Y:=u2.le;have hOa:=(aq hL.hd).1;obtain⟨h,c⟩:∃h:Sh,h=⟨l,z.length+3,I.length,Oa,z.length,z.length+1,z.length+2⟩:=⟨_,rfl⟩;obtain⟨F,hF⟩:∃F,F=z++[O.dct [],O.lst [],O.lst [],O.dct<|sD a0 h.K h.O h.G h.P h.A]:=⟨_,rfl⟩;have gF:Gr z F:=⟨_,hF⟩;have hFl:F.length=z.length+4:=by rw[hF];simp
 have f0:F[h.G]? =dt []:=by rw[hF,c,az<|aa _,sub_self];rfl
 have f1:F[h.P]? =ls []:=by rw[hF,c,az (by simp),show z.length+1 - z.length=1 by omega];rfl
 have f2:F[h.A]? =ls []:=by rw[hF,c,az (by simp),show z.length+2 - z.length=2 by omega];rfl
 have f3:F[h.s]? =dt (sD a0 h.K h.O h.G h.P h.A):=by rw[hF,c,az (by simp),show z.length+3 - z.length=3 by omega];rfl
 have hgo:z++[O.dct []]++[O.lst []]++[O.lst []]++[O.dct<|([.inr "last",.inr "kinds",.inr "over",.inr "given",.inr "pools",.inr "params"]:List Key).zip [D.int a0,.ref I.length,.ref Oa,.ref z.length,.ref (z++[O.dct []]).length,.ref (z++[O.dct []]++[O.lst []]).length]]=F:=by rw[hF,c];simp[sD]
 rw[hgo,show(z++[O.dct []]++[O.lst []]++[O.lst []]).length=h.s by rw[c];simp]
 have H:h.l=l:=by rw[c]
 have X:Dx h 0 F:=⟨by rw[H];obtain⟨nl,e⟩:=l3;exact⟨nl,gF.at e⟩,⟨a0,f3⟩,⟨[],by rw[c];exact gF.at hK3,(λp hp=>nomatch hp),aa _⟩,by rw[c];show z.length+3≠I.length;omega⟩
 have hFst:∀i,i<st.length->i≠l->F[i]? =st[i]?:=λi hi B=>by have e:st[i]? =some st[i]:=af hi;rw[e];exact gF.at<|g3.at<|g2.at<|u2.at (u1.at e B) B
 have hFe:∀{i:Nat}{o:O},s1[i]? =some o->st.length<=i->F[i]? =some o:=λe hi=>gF.at<|g3.at<|old e hi;have l2':(I++[O.dct []]).length=I.length+1:=by simp
 have hEn:∀s1',Un h F s1'->wU h s1' en Ws:=λs' U=>by
  have f:∀{i:Nat}{xs:List D},s1[i]? =ls xs->st.length<=i->Lk h s' i xs:=λ{i xs} e hi=>by
   have B:=(aq e).1;have i2:=ao B Y;have J:=lt_trans i2 hlt2;have n1:i≠h.l:=by rw[H];exact bd<|ao hll hi
   have n6:i≠h.P:=by rw[c];exact aw<|lt_add_right 1 J
   exact⟨by rw[U.same i (by rw[hFl];exact lt_add_right 4 J) n1 (by rw[c];exact aw<|lt_add_right 3 J) (by rw[c];exact aw i2) (by rw[c];exact aw<|lt_add_right 2 J) (by rw[c];exact aw J) n6];exact hFe e hi,n1,n6⟩
  exact⟨es,f e1 e3,e2,λj r x a b=>f (e5 j r x a b)<|e4 r<|ag a⟩
 have hO':F[h.O]? =ls (rs.map .ref):=by rw[c];exact gF.at hL.hd
 have hOx':∀(j r:Nat)(ws:List Nat),rs[j]? =some r->Os[j]? =some ws->F[r]? =ls ((zs ws).map .int)/\r≠h.l/\r≠h.P/\r≠h.A:=λj r ws x y=>by
  have hab:=hL.ab r<|ag x;have r3:=lt_trans hab.2 hOa;refine⟨gF.at<|hL.at_ j r ws x y,?_,?_,?_⟩
  .rw[H];exact bd<|ao (ao hll<|aM hle1 Y)<|aM g2.le hab.1
  .rw[c];exact aw<|lt_add_right 1 r3
  .rw[c];exact aw<|lt_add_right 2 r3
 have nA:h.A≠h.l:=by rw[c];show z.length+2≠l;omega
 have nP:h.P≠h.l:=by rw[c];show z.length+1≠l;omega
 have hPA:h.P<h.A:=by rw[c];show z.length+1<z.length+2;omega
 have nG:h.G≠h.s/\h.G≠h.K:=by rw[c];constructor<;>dsimp only<;>omega
 have nO:h.O≠h.l/\h.O≠h.P/\h.O≠h.A:=by rw[c];refine⟨?_,?_,?_⟩<;>dsimp only<;>omega
 have key:=yB (k:=k) (h:=h) (st:=F) (Q:=Q) (ca:=nt ca) (x5:=none) (x6:=none) (x7:=none) (x8:=none) (x9:=none) (en:=en) (tk:=tk) X f2 f0 f1 hO' hL.ln hOx' nA nP hPA nG nO htk ok (by rw[hOl,Z,hln]) (λx hx=>by rw[hOx x (by rw[Z];omega),Z,hln]) hEn λf G sx U lx fx gx=>?_
 .rw[H] at key;exact key
 .refine q f G sx ⟨?_,λi hi B=>?_⟩ (by rw[<-H];exact lx) fx gx
  .have:=U.le;omega
  .have i2:=ao hi<|aM hle1 Y;have J:=lt_trans i2 hlt2;rw[U.same i (by rw[hFl];exact lt_add_right 4 J) (by rw[H];exact B) (by rw[c];exact aw<|lt_add_right 3 J) (by rw[c];exact aw i2) (by rw[c];exact aw<|lt_add_right 2 J) (by rw[c];exact aw J) (by rw[c];exact aw<|lt_add_right 1 J)]
   exact hFst i hi B
end
section
variable{k l:Nat}{st:aU}{Q:D->aU->Prop}
theorem zR:([kN]:List D).length<=2/\∀d∈([kN]:List D),Kd d:=⟨by decide,λd hd=>by rw[mem_singleton.mp hd];exact .inl rfl⟩
theorem pi:([kN,kT]:List D).length<=2/\∀d∈([kN,kT]:List D),Kd d:=⟨by decide,all2 (P:=Kd) (.inl rfl)<|.inr<|.inl rfl⟩
theorem uI(hl:Lf st l)(q:∀c f1 F f2 B st1,Bu l st st1->Lf st1 l->GA F->GA B->dz st1 c [⟨"main",f1,F⟩,⟨"f",f2,B⟩]->Q (.ref c) st1):Wv (calls tab (k+6) oz [.ref l] st) Q:=by
 walk_at "call0"
 refine aW<|bC<|ac<|aH rfl<|ac<|bo<|ac<|bo<|ac<|aV<|am<|am<|ac<|aV<|am<|fj (.inl rfl) zR hl λf2 B s1 U l1 h2 g2=>?_;refine ba<|dI<|ac<|iS<|ac<|bC<|ac<|aH rfl<|ac<|bo<|ac<|bo<|ac<|aV<|am<|ac<|bo<|ac<|aV<|am<|am<|ac<|aV<|am<|fj (.inr rfl) pi l1 λf1 F Y I l2 h1 g1=>?_;refine ac<|aH rfl<|am ⟨⟨rfl,by decide+kernel⟩,am<|pU aG λa b J c1 c2 c3 g3=>⟨rfl,bc ?_⟩⟩
 have z:Gr Y J:=(Gr.one _ _).trans g3;refine q _ f1 F f2 B J ((U.trans I).trans<|.gr z) (by obtain⟨Z,e⟩:=l2;exact⟨Z,z.at e⟩) g1 g2 ⟨a,b,c1,c2,c3,λp H=>?_⟩
 rcases mem_cons.mp H with rfl|H
 .exact h1.gr z
 .rw[mem_singleton.mp H];exact(h2.ki<|I.ki l1).gr z
theorem uS{x:Key}{v:D}(h:∀p∈kv,p.1≠x):bD kv x v=kv++[(x,v)]:=by unfold bD;rw[if_neg];intro z;obtain⟨p,c,e⟩:=any_eq_true.mp z;exact h p c<|of_decide_eq_true e
theorem uu{c f:Nat}{nm:Str}{G:List Bl}{F:List Fu}(hc:dz st c F)(hf:dj st f G)(Z:nm∉F.map (·.nm))(hF:F.length<=9)(q:∀c' st1,Gr st st1->dz st1 c' (F++[⟨nm,f,G⟩])->Q (.ref c') st1):Wv (calls tab (k+2) f9 [.ref c,.str nm,.ref f] st) Q:=by
 obtain⟨a,b,h1,h2,h3,h4⟩:=hc
 walk_at "call0"
 refine aW<|bL<|ac<|bh<|aH rfl<|Dm h1 1 rfl<|am<|im h3 ?_;refine eE<|aH rfl<|aH rfl<|aH rfl<|cy aG rfl (by unfold nv;rw[length_map];omega) ?_
 rw[bJ,uS λp B=>by
  unfold nv at B;obtain⟨x,Y,rfl⟩:=mem_map.mp B;exact λz=>Z (by rw[<-Sum.inr.inj z];exact mem_map.mpr ⟨x,Y,rfl⟩)]
 refine ba<|dI<|ac<|aH rfl<|am<|pU aG λa b I c1 U J g3=>⟨rfl,bc ?_⟩;have H:Gr st I:=(Gr.one _ _).trans g3;have e:nv F++[((Sum.inr nm:Key),D.ref f)]=nv (F++[⟨nm,f,G⟩]):=by unfold nv;rw[map_append];rfl
 rw[e] at U J;refine q _ I H ⟨a,b,c1,U,J,λp B=>?_⟩;rcases mem_append.mp B with B|B
 .exact(h4 p B).gr H
 .rw[mem_singleton.mp B];exact hf.gr H
theorem qX(F:List Fu):∃a b c d,mF F=.tup (i4 a b c d):=⟨_,_,_,_,rfl⟩
theorem C7{F:List Fu}:kY st (mF F) (mF F)=some true:=by obtain⟨a,b,c,d,e⟩:=qX F;rw[e];simp[i4,kY,gC,nz]
theorem E9{c:List Bl}(B:GA c):FOk [⟨"main",f1,c⟩]:=⟨by show(["main"]:List Str).Nodup;decide+kernel,by show PyProof.Rows.sortedS (Tab23.eB ["main"])=true;decide+kernel,by simp,λp z=>by rw[mem_singleton.mp z];exact B⟩
theorem E8{B z:List Bl}(H:GA B)(F:GA z):FOk [⟨"main",f1,B⟩,⟨"f",f2,z⟩]:=⟨by show(["main","f"]:List Str).Nodup;decide+kernel,by show PyProof.Rows.sortedS (Tab23.eB ["main","f"])=true;decide+kernel,by simp,λp c=>by
 simp only[mem_cons,mem_nil_iff,or_false] at c;rcases c with rfl|rfl
 .exact H
 .exact F⟩
theorem EZ{F B z:List Bl}(J:GA F)(I:GA B)(H:GA z):FOk [⟨"main",f1,F⟩,⟨"f",f2,B⟩,⟨"g",f3,z⟩]:=⟨by show(["main","f","g"]:List Str).Nodup;decide+kernel,by show PyProof.Rows.sortedS (Tab23.eB ["main","f","g"])=true;decide+kernel,by simp,λp c=>by
 simp only[mem_cons,mem_nil_iff,or_false] at c;rcases c with rfl|rfl|rfl
 .exact J
 .exact I
 .exact H⟩
theorem EX{Z:Nat}{H F B z:List Bl}(Y:GA H)(U:GA F)(J:GA B)(I:GA z):FOk [⟨"main",f1,H⟩,⟨"f",f2,F⟩,⟨"g",f3,B⟩,⟨"a",Z,z⟩]:=⟨by show(["main","f","g","a"]:List Str).Nodup;decide+kernel,by show PyProof.Rows.sortedS (Tab23.eB ["main","f","g","a"])=true;decide+kernel,by simp,λp c=>by
 simp only[mem_cons,mem_nil_iff,or_false] at c;rcases c with rfl|rfl|rfl|rfl
 .exact Y
 .exact U
 .exact J
 .exact I⟩
end
section
variable{k:Nat}{st:aU}{Q:D->aU->Prop}
def Gd(st:aU)(x:D):Prop:=∃c F,x=.ref c/\FOk F/\dz st c F
theorem Gd.gr{st:aU}(h:Gd st x)(g:Gr st st'):Gd st' x:=by obtain⟨c,F,e,f,h⟩:=h;exact⟨c,F,e,f,h.gr g⟩
theorem zG{a b c d:Int}(F:loc[6]? =some (some<|.tup<|i4 a b c d))(h:Q (.ref st.length) (st++[.lst []])):W (run g (.comp .seq false (.v 6) (.or (.not<|.isi (.v 0) .int)<|.isi (.v 0) .bool) true<|.v 0) loc st) Q:=by
 refine bN<|aH F ⟨_,rfl,?_⟩;refine b5 (L:=i4 a b c d) (by show(i4 a b c d).length<=1000000;unfold i4;simp) (Nat.le_refl _) (λ_ acc s=>acc=[]/\s=st) ⟨rfl,rfl⟩ (λ_ _ _ _=>rfl) (λi x acc s z B=>?_) λacc s B=>?_
 .obtain⟨rfl,rfl⟩:=B
  have z:∃n,x=.int n:=by have:=ag z;unfold i4 at this;simp only[mem_cons,mem_nil_iff,or_false] at this;rcases this with rfl|rfl|rfl|rfl<;>exact⟨_,rfl⟩
  obtain⟨n,rfl⟩:=z;exact iR<|w_or<|w_not<|tR<|aH rfl ⟨true,rfl,true,rfl,false,rfl,nofun,λ_=>tR<|aH rfl ⟨false,rfl,_,rfl,nofun,λ_=>⟨rfl,rfl⟩⟩⟩
 .obtain⟨rfl,rfl⟩:=B;exact h
theorem Ct(hns:ns.length<=63)(h:∀st1,Q (.bl true) st1):Wv (calls tab (k+8) Dc [.fl<|ns.map .int] st) Q:=by
 walk_at "call0"
 refine aW<|bC<|ac<|aH rfl<|ac<|aV<|am<|si (k:=k+5) hns λl s1 l1 g1 hls=>?_;refine aW<|bo<|ac<|bo<|ac<|aV<|am<|ac<|bo<|ac<|aV<|am<|am ?_;refine aW<|dI<|ac<|iS<|ac<|bC<|ac<|aH rfl<|ac<|aH rfl<|ac<|aV<|am<|fj (k:=k+2) (.inl rfl) pi l1 λfa Ga s2 u2 l2 ha ga=>?_;refine am ⟨⟨rfl,by decide+kernel⟩,am<|pU aG λa b s3 c1 c2 c3 g3=>⟨rfl,?_⟩⟩
 have g23:Gr s2 s3:=(Gr.one _ _).trans g3;have l3:Lf s3 l:=by obtain⟨nl,e⟩:=l2;exact⟨nl,g23.at e⟩
 have C1:dz s3 (s2++[O.dct<|([.inr "main"]:List Key).zip [.ref fa]]).length [⟨"main",fa,Ga⟩]:=⟨a,b,c1,c2,c3,λp hp=>by rw[mem_singleton.mp hp];exact ha.gr g23⟩
 generalize (s2++[O.dct<|([.inr "main"]:List Key).zip [.ref fa]]).length=n1 at C1;refine aW<|iQ<|bC<|ac<|aH rfl<|am<|uI (k:=k+1) l3 λc f1 G1 f2 G2 s4 u4 l4 g1 g2 C2=>?_;obtain⟨a',b',d1,d2,d3,d4⟩:=id C2;refine DX d1 rfl<|ac<|aV<|ac<|bC<|ac<|aH rfl<|ac<|aH rfl<|ac<|aV<|am<|fj (k:=k+2) (.inr rfl) pi l4 λf3 G3 s5 u5 l5 h3 Z=>am ?_;refine uu (k:=k+5) (C2.bu u5 l4) h3 (by show(("g":Str)∉(["main","f"]:List Str));decide+kernel) (by show 2<=9;decide) λz s6 g6 C3=>?_
 have l6:Lf s6 l:=by obtain⟨nl,e⟩:=l5;exact⟨nl,g6.at e⟩
 have C1':=((C1.bu u4 l3).bu u5 l4).gr g6;refine dk<|bw<|ac<|bC<|ac<|aH rfl<|am<|uI (k:=k+1) l6 λJ f7 G7 f8 G8 s7 u7 l7 g7 g8 C4=>?_;have C1'':=C1'.bu u7 l6;have U:=C3.bu u7 l6;obtain⟨a3,b3,e1,e2,e3,e4⟩:=id U;refine ac<|aH rfl<|ac<|aH rfl<|ac<|iQ<|aH rfl<|DX e1 rfl<|ac<|aV<|ac<|be<|bh<|aH rfl<|Dm e1 0 rfl<|aV<|c5 e2 rfl<|am ?_;refine uu (k:=k+5) U (e4 ⟨"f",f2,G2⟩<|.tail _<|.head _) (by show(("a":Str)∉(["main","f","g"]:List Str));decide+kernel) (by show 3<=9;decide) λI B g9 C5=>am ⟨_,rfl,?_⟩
 have al4:∀x∈([.ref J,.ref n1,.ref z,.ref I]:List D),Gd (B++[O.lst [.ref J,.ref n1,.ref z,.ref I]]) x:=by
  have gg:Gr B (B++[O.lst [.ref J,.ref n1,.ref z,.ref I]]):= .one _ _;refine yQ ?_<|yQ ?_<|yQ ?_<|yQ ?_ Fj
  .exact Gd.gr ⟨_,_,rfl,E8 g7 g8,C4.gr g9⟩ gg
  .exact Gd.gr ⟨_,_,rfl,E9 ga,C1''.gr g9⟩ gg
  .exact Gd.gr ⟨_,_,rfl,EZ g1 g2 Z,U.gr g9⟩ gg
  .exact Gd.gr ⟨_,_,rfl,EX g1 g2 Z g2,C5⟩ gg
 have H:(B++[O.lst [.ref J,.ref n1,.ref z,.ref I]])[B.length]? =ls [.ref J,.ref n1,.ref z,.ref I]:=aG;show W (fO _ (.at B.length) _<|B++[O.lst [.ref J,.ref n1,.ref z,.ref I]]) _;generalize B++[O.lst [.ref J,.ref n1,.ref z,.ref I]]=s0 at al4 H;generalize ([.ref J,.ref n1,.ref z,.ref I]:List D)=L at al4 H;have hL:bG (.at B.length) s0=L.length:=by simp only[bG,H]
 refine cj (L:=L) (by rw[hL];exact aa _) (λi loc s=>(∃x5 x6,loc=[some<|.fl<|ns.map .int,rf l,some<|.tup [kN,kT],rf n1,rf z,x5,x6])/\Gr s0 s) ⟨⟨none,none,rfl⟩,.refl _⟩ (λi loc s Y=>by simp only[nxt,Y.2.at H]) (λi x loc s hx Y=>?_) λloc s Y=>?_
 .obtain⟨⟨x5,x6,rfl⟩,gs⟩:=Y;obtain⟨cc,F,rfl,hF,hc⟩:=(al4 x<|ag hx).gr gs;refine aW<|bC<|ac<|aH rfl<|am<|lu (k:=k) hF hc λt1 k1=>?_;obtain⟨m1,m2,m3,m4,hm⟩:=qX F;have h6:∀s:aU,kY s (mF F) (mF F)=some true:=λs=>C7;refine cr (w_or<|w_not<|tR<|aH rfl ⟨true,by rw[hm];rfl,true,rfl,false,rfl,nofun,λ_=>?_⟩)
  refine w_or<|bi<|aH rfl<|bC<|ac<|aH rfl<|am<|Cw (k:=k+5) hF (hc.gr k1) λt2 k2=>jO (h6 t2) ⟨_,rfl,nofun,λ_=>?_⟩;refine bi<|bC<|ac<|aH rfl<|am<|lu (k:=k) hF (hc.gr<|k1.trans k2) λt3 k3=>aH rfl<|jO (h6 t3) ⟨_,rfl,nofun,λ_=>aO<|a6 ?_⟩;rw[hm];refine cr<|bi<|zG rfl<|bw<|am<|jO (jc (aZ aG) aG) ⟨_,rfl,nofun,λ_=>aO<|a6<|aO<|bW ⟨⟨_,_,rfl⟩,?_⟩⟩;exact gs.trans<|k1.trans<|k2.trans<|k3.trans<|(Gr.one _ _).more _
 .obtain⟨⟨x5,x6,rfl⟩,gs⟩:=Y;exact a6<|ba<|aV<|bc<|h s
end
end K63
namespace K63
noncomputable def top(i:Nat):Stmt:=PySem.Challenge.pw_eachstepsame_k63_measures.main.body.getD i<|.Pass ⟨0,0,0,0⟩
def meth(i j:Nat):Stmt:=match top i with| .ClassDef _ _ _ body _ _ _ _ _ _ _=>body.getD j (.Pass ⟨0,0,0,0⟩)|s=>s
noncomputable def names:List Str:=(["is_call","gone_through","turned","nearest_rulers","common_ruler","followers","ways_of","rulers_first","measure","measure_of","weight","ruler_counts","_law_mixed","_law_numbers","_law_take","_law_shape","_law_over","_law_fresh","_law_operand","_law_row","_law_body","_law_edge","_law_end","_law_function","_law_code","_law_weight","_law_due","law"]:List Str)++([]:List Str)
noncomputable def isks:List (Str×List (Str×Bool)):=[("Jump",[("Jump",true),("Branch",false),("Back",false),("Raise",false),("Risk",false)]),("Branch",[("Jump",false),("Branch",true),("Back",false),("Raise",false),("Risk",false)]),("Risk",[("Jump",false),("Branch",false),("Back",false),("Raise",false),("Risk",true)])]
def T:Tab:=⟨names,isks,true,[⟨"Row",["name","op","extra","operands"],[]⟩,⟨"Jump",["edge"],[("edges",32),("told",31)]⟩,⟨"Branch",["test","yes","no"],[("edges",35),("told",34)]⟩,⟨"Back",["operand"],[("edges",29),("told",37)]⟩,⟨"Raise",["fault"],[("edges",29),("told",39)]⟩,⟨"Risk",["op","extra","asked","edge","catches"],[("edges",42),("told",41)]⟩,⟨"Block",["params","rows","end"],[]⟩,⟨"Function",["takes","gives","kinds","kept_kinds","blocks"],[]⟩,⟨"Code",["functions","kept_functions"],[("function_named",47),("names",46),("with_function",48)]⟩],[("Row",28),("Jump",30),("Branch",33),("Back",36),("Raise",38),("Risk",40),("Block",43),("Function",44),("Code",45)]⟩
def R1(x:Str)(ps more:List Str)(i:Nat)(f:Fn):Rec:=⟨x,x,x,ps,ps++more,top i,f⟩
def R2(m q:Str)(ps more:List Str)(i j:Nat)(f:Fn):Rec:=⟨q,m,q,ps,ps++more,meth i j,f⟩
noncomputable def bq:List Rec:=[R1 "is_call" ["end"] [] 9 jb,R1 "gone_through" ["ways","begin","done"] ["order","pile","top","number","follower"] 14 d7,R1 "turned" ["ways"] ["back","number","followers","follower"] 15 kE,R1 "nearest_rulers" ["ways"] ["order","rank","back","leading","nearest","changed","place","ruler"] 16 dq,R1 "common_ruler" ["numbers","nearest","rank"] ["ruler","number","climbing"] 17 d8,R1 "followers" ["function","number"] [] 19 gb,R1 "ways_of" ["function"] [] 20 i_,R1 "rulers_first" ["function"] [] 21 dZ,R1 "measure" ["code"] ["sums","name","place","part"] 23 ja,R1 "measure_of" ["function"] ["ends","rows","params","ruled"] 24 fw,R1 "weight" ["end"] [] 25 kC,R1 "ruler_counts" ["function"] ["nearest","counts","number"] 26 d0,R1 "_law_mixed" ["_law_cell","_law_k"] ["_law_number"] 29 fA,R1 "_law_numbers" ["_law_cells","_law_many"] ["_law_found","_law_cell","_law_left","_law_k"] 30 d_,R1 "_law_take" ["_law_left"] [] 31 gd,R1 "_law_shape" ["_law_left","_law_calls"] ["_law_many","_law_ends","_law_number","_law_word","_law_other","_law_both"] 32 fy,R1 "_law_over" ["_law_ends"] ["_law_over_here","_law_without","_law_there","_law_waiting","_law_here","_law_other"] 33 ge,R1 "_law_fresh" ["_law_state","_law_left","_law_kind"] [] 34 fB,R1 "_law_operand" ["_law_state","_law_left","_law_pool","_law_kind"] ["_law_some","_law_way"] 35 d9,R1 "_law_row" ["_law_state","_law_left","_law_pool"] ["_law_words","_law_op","_law_wide","_law_of_truths","_law_kind","_law_asked","_law_due_here"] 36 h_,R1 "_law_body" ["_law_state","_law_left","_law_number","_law_ends"] ["_law_pool","_law_other","_law_mine","_law_rows","_law_k","_law_kind"] 37 gi,R1 "_law_edge" ["_law_state","_law_left","_law_pool","_law_target","_law_result"] ["_law_names"] 38 gf,R1 "_law_end" ["_law_state","_law_left","_law_number","_law_end_here"] ["_law_pool","_law_word","_law_targets","_law_first","_law_rest","_law_asked","_law_catches"] 39 ia,R1 "_law_function" ["_law_left","_law_takes","_law_calls"] ["_law_ends","_law_state","_law_number","_law_kinds","_law_rows","_law_blocks","_law_end_here"] 40 cq,R1 "_law_code" ["_law_left"] ["_law_helper"] 41 gh,R1 "_law_weight" ["_law_told"] [] 42 eT,R1 "_law_due" ["_law_code_here"] ["_law_calls","_law_turns","_law_givings","_law_ruled","_law_function_here","_law_over_here","_law_number","_law_block","_law_told"] 43 ib,R1 "law" ["_law_script"] ["_law_left","_law_takes","_law_alone","_law_three","_law_code_here","_law_found"] 44 v7,R2 "__init__" "Row.__init__" ["self","name","op","extra","operands"] [] 2 0 ie,R2 "edges" "End.edges" ["self"] [] 3 0 gq,R2 "__init__" "Jump.__init__" ["self","edge"] [] 4 0 gp,R2 "told" "Jump.told" ["self"] [] 4 1 gn,R2 "edges" "Jump.edges" ["self"] [] 4 3 fF,R2 "__init__" "Branch.__init__" ["self","test","yes","no"] [] 5 0 eW,R2 "told" "Branch.told" ["self"] [] 5 1 eV,R2 "edges" "Branch.edges" ["self"] [] 5 3 eh,R2 "__init__" "Back.__init__" ["self","operand"] [] 6 0 gy,R2 "told" "Back.told" ["self"] [] 6 1 gw,R2 "__init__" "Raise.__init__" ["self","fault"] [] 7 0 fE,R2 "told" "Raise.told" ["self"] [] 7 1 fD,R2 "__init__" "Risk.__init__" ["self","op","extra","asked","edge","catches"] [] 8 0 gm,R2 "told" "Risk.told" ["self"] [] 8 1 gj,R2 "edges" "Risk.edges" ["self"] [] 8 3 fC,R2 "__init__" "Block.__init__" ["self","params","rows","end"] [] 10 0 fH,R2 "__init__" "Function.__init__" ["self","takes","gives","kinds","blocks"] [] 11 0 dH,R2 "__init__" "Code.__init__" ["self","functions"] [] 12 0 gu,R2 "names" "Code.names" ["self"] [] 12 2 fG,R2 "function_named" "Code.function_named" ["self","name"] [] 12 4 cu,R2 "with_function" "Code.with_function" ["self","name","function"] ["functions"] 12 5 cA]
noncomputable def ad:List Addr:=[331,484,489,494,501,506,511,518,525,530,537,544,558,565,572,579,584,591,596,601,606,611,616,621,628,635,640,645,35,70,112,119,133,159,166,180,213,220,253,260,286,293,305,345,383,437,449,463,470]
theorem chk:∀r∈bq,Chk T r:=by
 unfold bq
 repeat' refine List.forall_mem_cons.mpr ⟨⟨⟨rfl,rfl,rfl,by decide+kernel,rfl,by decide+kernel,by decide+kernel⟩,by decide+kernel,by kernel_rfl,rfl,by decide+kernel⟩,?_⟩
 exact λ_ h=>nomatch h
noncomputable def DS(r:Rec)(us:List Value):Prop:=∀kV doc pm an cdv ct,bindArgs (PySem.W.fnOf r.fname r.qual (eK r.st) (dA r.st) (bY r.st) .none kV doc pm an cdv ct) ⟨us,[]⟩=pure (r.ps.zip us)
def BL(r:Rec):Nat->List Value->Prop
 |0,us=>DS r us
 |n+1,us=>∀a,BL r n (us++[a])
theorem zq{r:Rec}:∀(n:Nat)(us vs:List Value),vs.length=n->BL r n us->DS r (us++vs)
 |0,us,[],_,h=>by rw[append_nil];exact h
 |n+1,us,v::vs,hl,h=>by have:=zq n (us++[v]) vs (succ.inj hl)<|h v;rwa [append_assoc] at this
theorem bv{r:Rec}(n:Nat)(B:r.ps.length=n)(h:BL r n []):BV r:=λkV c pm H z ct us F=>zq n [] us (F.trans B) h kV c pm H z ct
theorem bg:∀r∈bq,BV r:=by
 unfold bq
 repeat' refine List.forall_mem_cons.mpr ⟨by first|(refine bv 1 (by rfl) ?_;exact λ_ _ _ _ _ _ _=>rfl)|(refine bv 2 (by rfl) ?_;exact λ_ _ _ _ _ _ _ _=>rfl)|(refine bv 3 (by rfl) ?_;exact λ_ _ _ _ _ _ _ _ _=>rfl)|(refine bv 4 (by rfl) ?_;exact λ_ _ _ _ _ _ _ _ _ _=>rfl)|(refine bv 5 (by rfl) ?_;exact λ_ _ _ _ _ _ _ _ _ _ _=>rfl)|(refine bv 6 (by rfl) ?_;exact λ_ _ _ _ _ _ _ _ _ _ _ _=>rfl),?_⟩
 exact λ_ h=>nomatch h
end K63
end Ev
namespace Ev.K63
open PySem PySem.Spec PyProof.Rows L2
theorem FF(P:Params):lG (Op.K P) T bq ad=true:=by kernel_rfl
theorem FE(P:Params):(bq.zip ad).map (λp=>(Op.K P).lookup p.2)=(bq.zip ad).map λp=>BO p.1 ((Op.K P).lookup p.2):=by kernel_rfl
theorem F0(P:Params):yp (Op.K P) T=true:=by kernel_rfl
theorem Ac(ns:List Int)(c:ns.length<=63):∃st',calls (bq.map (·.fn)) 8 27 [.fl<|ns.map .int] []=.ok (.v<|.bl true) st':=by
 obtain⟨a,st',e,h⟩:=W.get<|Ct (k:=0) (st:=[]) (ns:=ns) (Q:=λd _=>d=.bl true) c λ_=>rfl;cases a with
 |v d=>have h:d=.bl true:=h;subst h;exact⟨st',e⟩
 |x n=>exact h.elim
end Ev.K63
open PySem PySem.W PyProof.Rows
set_option maxRecDepth 100000 in
set_option maxHeartbeats 0 in
theorem PySem.Challenge.cw_eachstepsame_k63_measures_holds : PySem.Challenge.rw_eachstepsame_k63_measures.Holds := by
 w_on;o_law
 refine holds_open (q:=Op.q) (loose:=[]) (Xt:=Op.Xt) (XP:=XL Op.q []) (Yf:=Op.hk.obs) (Ya:=Op.hk.val) (YP:=Op.hk.says) (N:=8982) Op.left (Hook.of Op.hk) (Hook.keeps Op.hk) (λs e=>xl_of s (Bool.and_eq_true_iff.mp e).1) XL.keeps (by rfl) (by rfl) (by rfl) (λs e=>recFacts_of (Bool.and_eq_true_iff.mp e).2) (by rfl) (by first|assumption|decide+kernel) (by decide+kernel) ⟨rfl,rfl,rfl,rfl,rfl,by decide+kernel⟩ ?hw ?hc
 case hw=>w_witness2
 refine Ev.walk (l:=PySem.Challenge.rw_eachstepsame_k63_measures) (n:=2*8) (x:= "_law_script") rfl rfl ⟨rfl,by decide,by decide⟩ (λw h Y=>PySem.W.kIn_of (K:=Op.K) (as:=Op.as) (e:=Op.keys) Y) ?F
 case F=>
  intro w mg fa h KX G hmg;exact Ev.yi (n:=8) (li:=27) (a:=645) (r:=Ev.K63.bq[27]) KX G hmg Ev.K63.bg (Ev.K63.FF _) (Ev.K63.FE _) (Ev.sX KX G Ev.K63.chk rfl Ev.K63.bg (Ev.K63.FF _) (Ev.K63.FE _) (by decide)<|Ev.K63.F0 _) rfl rfl (by kernel_rfl) rfl Ev.K63.Ac
