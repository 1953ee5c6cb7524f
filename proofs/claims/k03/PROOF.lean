import PyProof.Rows.All
import Wide.All
import OpenK.AllK
import Wide.FinOn
import KE.KExcLine
import KE.KExcSuper
import KE.KIntText
import KE.KOpsOwn
import PyProof.InstNe
import HandS.ForMost
import HandS.ForExc
import HandS.ExcInit
import HandS.IsInst
import HandS.StrMore
import HandS.Defaults
import HandS.Wide
import HandS.WordsExc
import HandS.FStr
import HandS.Style
import HandS.Flow
import HandS.Flt
import HandS.Conv
import HandS.Property
import HandS.ClsMeth
import HandS.MakeKwOnly
import HandS.ReplaceList
import HandS.Star
import HandS.Zip
import KE.KxField
import HandS.Head0
import HandS.Head1
import HandS.Head2
import HandS.Replace
import HandS.ReplaceLit
import HandS.ReplaceDef
import HandS.Ends
import PyProof.Draws
import PyProof.EnumMake
import KE.GoesMore
import PyProof.ReprRoads
import PyProof.StrHeap
import PyProof.ReprHeads
import HandS.RaiseMore
import PySem.Challenge.RW_fullqueue_k03_programs_recognized
set_option Elab.async false
set_option linter.all false
set_option maxRecDepth 100000
set_option maxHeartbeats 4000000
section
open PySem PySem.W PyProof.Rows
def My.hTop (i : Nat) : Stmt := PySem.Challenge.pw_fullqueue_k03_programs_recognized.main.body.getD i (.Pass ⟨0, 0, 0, 0⟩)
def My.o2 (P : Params) : Obj := { cls := Value.none, data := Data.dict #[{ hash := PyData.keyHash P (Str.ofString "type.__subclasses__.OverflowError.0"), key := Value.str (Str.ofString "type.__subclasses__.OverflowError.0") 298, val := Value.int 94 0 }, { hash := PyData.keyHash P (Str.ofString "type.__subclasses__.OverflowError.n"), key := Value.str (Str.ofString "type.__subclasses__.OverflowError.n") 299, val := Value.int 1 0 }] 2 }
def My.o3 (P : Params) : Obj := { cls := Value.type "dict", data := Data.dict #[{ hash := PyData.keyHash P (Str.ofString "__name__"), key := Value.str (Str.ofString "__name__") 165, val := Value.str (Str.ofString "law_fullqueue_k03_programs_recognized") 765 }, { hash := PyData.keyHash P (Str.ofString "__doc__"), key := Value.str (Str.ofString "__doc__") 166, val := Value.none }, { hash := PyData.keyHash P (Str.ofString "__package__"), key := Value.str (Str.ofString "__package__") 167, val := Value.none }, { hash := PyData.keyHash P (Str.ofString "__loader__"), key := Value.str (Str.ofString "__loader__") 168, val := Value.builtin "__main__.__loader__#opaque" }, { hash := PyData.keyHash P (Str.ofString "__spec__"), key := Value.str (Str.ofString "__spec__") 169, val := Value.none }, { hash := PyData.keyHash P (Str.ofString "__annotations__"), key := Value.str (Str.ofString "__annotations__") 170, val := Value.ref 6 }, { hash := PyData.keyHash P (Str.ofString "__builtins__"), key := Value.str (Str.ofString "__builtins__") 171, val := Value.ref 4 }, { hash := PyData.keyHash P (Str.ofString "__file__"), key := Value.str (Str.ofString "__file__") 173, val := Value.str (Str.ofString "/claim/cut.py") 172 }, { hash := PyData.keyHash P (Str.ofString "__cached__"), key := Value.str (Str.ofString "__cached__") 174, val := Value.none }, { hash := PyData.keyHash P (Str.ofString "QueueError"), key := Value.str (Str.ofString "QueueError") 206, val := Value.ref 24 }, { hash := PyData.keyHash P (Str.ofString "InvalidInteger"), key := Value.str (Str.ofString "InvalidInteger") 222, val := Value.ref 37 }, { hash := PyData.keyHash P (Str.ofString "InvalidCapacity"), key := Value.str (Str.ofString "InvalidCapacity") 238, val := Value.ref 49 }, { hash := PyData.keyHash P (Str.ofString "InvalidMode"), key := Value.str (Str.ofString "InvalidMode") 254, val := Value.ref 61 }, { hash := PyData.keyHash P (Str.ofString "InvalidProgram"), key := Value.str (Str.ofString "InvalidProgram") 270, val := Value.ref 73 }, { hash := PyData.keyHash P (Str.ofString "LimitExceeded"), key := Value.str (Str.ofString "LimitExceeded") 301, val := Value.ref 94 }, { hash := PyData.keyHash P (Str.ofString "DIGITS"), key := Value.str (Str.ofString "DIGITS") 305, val := Value.str (Str.ofString "0123456789") 304 }, { hash := PyData.keyHash P (Str.ofString "MOST_DIGITS"), key := Value.str (Str.ofString "MOST_DIGITS") 307, val := Value.int 60 306 }, { hash := PyData.keyHash P (Str.ofString "is_int"), key := Value.str (Str.ofString "is_int") 314, val := Value.ref 104 }, { hash := PyData.keyHash P (Str.ofString "is_natural"), key := Value.str (Str.ofString "is_natural") 321, val := Value.ref 111 }, { hash := PyData.keyHash P (Str.ofString "is_int_between"), key := Value.str (Str.ofString "is_int_between") 330, val := Value.ref 118 }, { hash := PyData.keyHash P (Str.ofString "read_integer"), key := Value.str (Str.ofString "read_integer") 339, val := Value.ref 125 }, { hash := PyData.keyHash P (Str.ofString "TAKE"), key := Value.str (Str.ofString "TAKE") 343, val := Value.str (Str.ofString "-") 342 }, { hash := PyData.keyHash P (Str.ofString "STEPS"), key := Value.str (Str.ofString "STEPS") 345, val := Value.str (Str.ofString "abcdefghijklmnopqrstuvwxyz-") 344 }, { hash := PyData.keyHash P (Str.ofString "MOST_COUNT"), key := Value.str (Str.ofString "MOST_COUNT") 349, val := Value.int 1000000000000000000000000000000 348 }, { hash := PyData.keyHash P (Str.ofString "MOST_DEPTH"), key := Value.str (Str.ofString "MOST_DEPTH") 351, val := Value.int 20 350 }, { hash := PyData.keyHash P (Str.ofString "MOST_STEPS"), key := Value.str (Str.ofString "MOST_STEPS") 353, val := Value.int 4000 352 }, { hash := PyData.keyHash P (Str.ofString "is_program"), key := Value.str (Str.ofString "is_program") 360, val := Value.ref 132 }, { hash := PyData.keyHash P (Str.ofString "is_sequence"), key := Value.str (Str.ofString "is_sequence") 367, val := Value.ref 139 }, { hash := PyData.keyHash P (Str.ofString "is_count"), key := Value.str (Str.ofString "is_count") 374, val := Value.ref 146 }, { hash := PyData.keyHash P (Str.ofString "check_count"), key := Value.str (Str.ofString "check_count") 381, val := Value.ref 153 }, { hash := PyData.keyHash P (Str.ofString "count_steps"), key := Value.str (Str.ofString "count_steps") 388, val := Value.ref 160 }, { hash := PyData.keyHash P (Str.ofString "write_out"), key := Value.str (Str.ofString "write_out") 397, val := Value.ref 167 }, { hash := PyData.keyHash P (Str.ofString "last_puts"), key := Value.str (Str.ofString "last_puts") 406, val := Value.ref 174 }, { hash := PyData.keyHash P (Str.ofString "repeat"), key := Value.str (Str.ofString "repeat") 416, val := Value.ref 181 }, { hash := PyData.keyHash P (Str.ofString "parts_of"), key := Value.str (Str.ofString "parts_of") 424, val := Value.ref 188 }, { hash := PyData.keyHash P (Str.ofString "read_parts"), key := Value.str (Str.ofString "read_parts") 437, val := Value.ref 195 }, { hash := PyData.keyHash P (Str.ofString "end_of_run"), key := Value.str (Str.ofString "end_of_run") 447, val := Value.ref 202 }, { hash := PyData.keyHash P (Str.ofString "depth_of"), key := Value.str (Str.ofString "depth_of") 458, val := Value.ref 209 }, { hash := PyData.keyHash P (Str.ofString "count_part_steps"), key := Value.str (Str.ofString "count_part_steps") 469, val := Value.ref 216 }, { hash := PyData.keyHash P (Str.ofString "write_parts"), key := Value.str (Str.ofString "write_parts") 475, val := Value.ref 221 }, { hash := PyData.keyHash P (Str.ofString "write_part"), key := Value.str (Str.ofString "write_part") 485, val := Value.ref 228 }, { hash := PyData.keyHash P (Str.ofString "last_letters"), key := Value.str (Str.ofString "last_letters") 495, val := Value.ref 235 }, { hash := PyData.keyHash P (Str.ofString "last_letters_of_part"), key := Value.str (Str.ofString "last_letters_of_part") 507, val := Value.ref 242 }, { hash := PyData.keyHash P (Str.ofString "ending"), key := Value.str (Str.ofString "ending") 515, val := Value.ref 249 }, { hash := PyData.keyHash P (Str.ofString "MODES"), key := Value.str (Str.ofString "MODES") 521, val := Value.ref 250 }, { hash := PyData.keyHash P (Str.ofString "MOST_CAPACITY"), key := Value.str (Str.ofString "MOST_CAPACITY") 523, val := Value.int 100 522 }, { hash := PyData.keyHash P (Str.ofString "is_capacity"), key := Value.str (Str.ofString "is_capacity") 530, val := Value.ref 257 }, { hash := PyData.keyHash P (Str.ofString "is_mode"), key := Value.str (Str.ofString "is_mode") 537, val := Value.ref 264 }, { hash := PyData.keyHash P (Str.ofString "check_capacity"), key := Value.str (Str.ofString "check_capacity") 546, val := Value.ref 271 }, { hash := PyData.keyHash P (Str.ofString "check_mode"), key := Value.str (Str.ofString "check_mode") 553, val := Value.ref 278 }, { hash := PyData.keyHash P (Str.ofString "Profile"), key := Value.str (Str.ofString "Profile") 741, val := Value.ref 399 }, { hash := PyData.keyHash P (Str.ofString "start_lengths"), key := Value.str (Str.ofString "start_lengths") 753, val := Value.ref 410 }, { hash := PyData.keyHash P (Str.ofString "start_bounds"), key := Value.str (Str.ofString "start_bounds") 764, val := Value.ref 417 }, { hash := PyData.keyHash P (Str.ofString "_law_draws"), key := Value.str (Str.ofString "_law_draws") 776, val := Value.ref 424 }, { hash := PyData.keyHash P (Str.ofString "_law_draw"), key := Value.str (Str.ofString "_law_draw") 785, val := Value.ref 431 }, { hash := PyData.keyHash P (Str.ofString "_law_letter"), key := Value.str (Str.ofString "_law_letter") 792, val := Value.ref 438 }, { hash := PyData.keyHash P (Str.ofString "_law_sequence"), key := Value.str (Str.ofString "_law_sequence") 803, val := Value.ref 445 }, { hash := PyData.keyHash P (Str.ofString "_law_program"), key := Value.str (Str.ofString "_law_program") 818, val := Value.ref 452 }, { hash := PyData.keyHash P (Str.ofString "_law_rest"), key := Value.str (Str.ofString "_law_rest") 829, val := Value.ref 459 }, { hash := PyData.keyHash P (Str.ofString "_law_is_program"), key := Value.str (Str.ofString "_law_is_program") 836, val := Value.ref 466 }, { hash := PyData.keyHash P (Str.ofString "_law_error"), key := Value.str (Str.ofString "_law_error") 844, val := Value.ref 473 }, { hash := PyData.keyHash P (Str.ofString "_law_right"), key := Value.str (Str.ofString "_law_right") 850, val := Value.ref 478 }, { hash := PyData.keyHash P (Str.ofString "law"), key := Value.str (Str.ofString "law") 856, val := Value.ref 483 }] 63 }
def My.o15 (P : Params) : Obj := { cls := Value.type "tuple", data := Data.seq #[Value.type "ValueError"] }
def My.o22 (P : Params) : Obj := { cls := Value.type "tuple", data := Data.seq #[] }
def My.o23 (P : Params) : Obj := { cls := Value.type "dict", data := Data.dict #[{ hash := PyData.keyHash P (Str.ofString "__module__"), key := Value.str (Str.ofString "__module__") 196, val := Value.str (Str.ofString "fullqueue.errors") 187 }, { hash := PyData.keyHash P (Str.ofString "__firstlineno__"), key := Value.str (Str.ofString "__firstlineno__") 200, val := Value.int 2 199 }, { hash := PyData.keyHash P (Str.ofString "__static_attributes__"), key := Value.str (Str.ofString "__static_attributes__") 201, val := Value.ref 22 }, { hash := PyData.keyHash P (Str.ofString "__weakref__"), key := Value.str (Str.ofString "__weakref__") 203, val := Value.ref 25 }, { hash := PyData.keyHash P (Str.ofString "__doc__"), key := Value.str (Str.ofString "__doc__") 204, val := Value.none }] 3 }
def My.o24 (P : Params) : Obj := { cls := Value.type "type", data := Data.cls { name := Str.ofString "QueueError", bases := [Value.type "ValueError"], mro := [Value.ref 24, Value.type "ValueError", Value.type "Exception", Value.type "BaseException", Value.type "object"], ns := 23, qualname := Str.ofString "QueueError", subclasses := [Value.ref 37, Value.ref 49, Value.ref 61, Value.ref 73] }, slots := #[some (Value.ref 15), none, some (Value.str (Str.ofString "QueueError") 189), some (Value.str (Str.ofString "QueueError") 197), some (Value.builtin "ValueError.__new__"), some (Value.bool true)] }
def My.o25 (P : Params) : Obj := { cls := Value.type "getset_descriptor", data := Data.fields #[Value.str (Str.ofString "__weakref__") 202, Value.ref 24, Value.builtin "ExceptionGroup.__weakref__", Value.none] }
def My.o28 (P : Params) : Obj := { cls := Value.type "tuple", data := Data.seq #[Value.ref 24] }
def My.o35 (P : Params) : Obj := { cls := Value.type "tuple", data := Data.seq #[] }
def My.o36 (P : Params) : Obj := { cls := Value.type "dict", data := Data.dict #[{ hash := PyData.keyHash P (Str.ofString "__module__"), key := Value.str (Str.ofString "__module__") 214, val := Value.str (Str.ofString "fullqueue.errors") 187 }, { hash := PyData.keyHash P (Str.ofString "__firstlineno__"), key := Value.str (Str.ofString "__firstlineno__") 218, val := Value.int 4 217 }, { hash := PyData.keyHash P (Str.ofString "__static_attributes__"), key := Value.str (Str.ofString "__static_attributes__") 219, val := Value.ref 35 }, { hash := PyData.keyHash P (Str.ofString "__doc__"), key := Value.str (Str.ofString "__doc__") 220, val := Value.none }] 2 }
def My.o37 (P : Params) : Obj := { cls := Value.type "type", data := Data.cls { name := Str.ofString "InvalidInteger", bases := [Value.ref 24], mro := [Value.ref 37, Value.ref 24, Value.type "ValueError", Value.type "Exception", Value.type "BaseException", Value.type "object"], ns := 36, qualname := Str.ofString "InvalidInteger" }, slots := #[some (Value.ref 28), none, some (Value.str (Str.ofString "InvalidInteger") 207), some (Value.str (Str.ofString "InvalidInteger") 215), some (Value.builtin "ValueError.__new__"), some (Value.bool true)] }
def My.o40 (P : Params) : Obj := { cls := Value.type "tuple", data := Data.seq #[Value.ref 24] }
def My.o47 (P : Params) : Obj := { cls := Value.type "tuple", data := Data.seq #[] }
def My.o48 (P : Params) : Obj := { cls := Value.type "dict", data := Data.dict #[{ hash := PyData.keyHash P (Str.ofString "__module__"), key := Value.str (Str.ofString "__module__") 230, val := Value.str (Str.ofString "fullqueue.errors") 187 }, { hash := PyData.keyHash P (Str.ofString "__firstlineno__"), key := Value.str (Str.ofString "__firstlineno__") 234, val := Value.int 6 233 }, { hash := PyData.keyHash P (Str.ofString "__static_attributes__"), key := Value.str (Str.ofString "__static_attributes__") 235, val := Value.ref 47 }, { hash := PyData.keyHash P (Str.ofString "__doc__"), key := Value.str (Str.ofString "__doc__") 236, val := Value.none }] 2 }
def My.o49 (P : Params) : Obj := { cls := Value.type "type", data := Data.cls { name := Str.ofString "InvalidCapacity", bases := [Value.ref 24], mro := [Value.ref 49, Value.ref 24, Value.type "ValueError", Value.type "Exception", Value.type "BaseException", Value.type "object"], ns := 48, qualname := Str.ofString "InvalidCapacity" }, slots := #[some (Value.ref 40), none, some (Value.str (Str.ofString "InvalidCapacity") 223), some (Value.str (Str.ofString "InvalidCapacity") 231), some (Value.builtin "ValueError.__new__"), some (Value.bool true)] }
def My.o52 (P : Params) : Obj := { cls := Value.type "tuple", data := Data.seq #[Value.ref 24] }
def My.o59 (P : Params) : Obj := { cls := Value.type "tuple", data := Data.seq #[] }
def My.o60 (P : Params) : Obj := { cls := Value.type "dict", data := Data.dict #[{ hash := PyData.keyHash P (Str.ofString "__module__"), key := Value.str (Str.ofString "__module__") 246, val := Value.str (Str.ofString "fullqueue.errors") 187 }, { hash := PyData.keyHash P (Str.ofString "__firstlineno__"), key := Value.str (Str.ofString "__firstlineno__") 250, val := Value.int 8 249 }, { hash := PyData.keyHash P (Str.ofString "__static_attributes__"), key := Value.str (Str.ofString "__static_attributes__") 251, val := Value.ref 59 }, { hash := PyData.keyHash P (Str.ofString "__doc__"), key := Value.str (Str.ofString "__doc__") 252, val := Value.none }] 2 }
def My.o61 (P : Params) : Obj := { cls := Value.type "type", data := Data.cls { name := Str.ofString "InvalidMode", bases := [Value.ref 24], mro := [Value.ref 61, Value.ref 24, Value.type "ValueError", Value.type "Exception", Value.type "BaseException", Value.type "object"], ns := 60, qualname := Str.ofString "InvalidMode" }, slots := #[some (Value.ref 52), none, some (Value.str (Str.ofString "InvalidMode") 239), some (Value.str (Str.ofString "InvalidMode") 247), some (Value.builtin "ValueError.__new__"), some (Value.bool true)] }
def My.o64 (P : Params) : Obj := { cls := Value.type "tuple", data := Data.seq #[Value.ref 24] }
def My.o71 (P : Params) : Obj := { cls := Value.type "tuple", data := Data.seq #[] }
def My.o72 (P : Params) : Obj := { cls := Value.type "dict", data := Data.dict #[{ hash := PyData.keyHash P (Str.ofString "__module__"), key := Value.str (Str.ofString "__module__") 262, val := Value.str (Str.ofString "fullqueue.errors") 187 }, { hash := PyData.keyHash P (Str.ofString "__firstlineno__"), key := Value.str (Str.ofString "__firstlineno__") 266, val := Value.int 10 265 }, { hash := PyData.keyHash P (Str.ofString "__static_attributes__"), key := Value.str (Str.ofString "__static_attributes__") 267, val := Value.ref 71 }, { hash := PyData.keyHash P (Str.ofString "__doc__"), key := Value.str (Str.ofString "__doc__") 268, val := Value.none }] 2 }
def My.o73 (P : Params) : Obj := { cls := Value.type "type", data := Data.cls { name := Str.ofString "InvalidProgram", bases := [Value.ref 24], mro := [Value.ref 73, Value.ref 24, Value.type "ValueError", Value.type "Exception", Value.type "BaseException", Value.type "object"], ns := 72, qualname := Str.ofString "InvalidProgram" }, slots := #[some (Value.ref 64), none, some (Value.str (Str.ofString "InvalidProgram") 255), some (Value.str (Str.ofString "InvalidProgram") 263), some (Value.builtin "ValueError.__new__"), some (Value.bool true)] }
def My.o76 (P : Params) : Obj := { cls := Value.type "tuple", data := Data.seq #[Value.type "OverflowError"] }
def My.o79 (P : Params) : Obj := { cls := Value.type "cell", data := Data.cell (some (Value.ref 94)) }
def My.o84 (P : Params) : Obj := { cls := Value.type "tuple", data := Data.seq #[Value.ref 79] }
def My.o85 (P : Params) : Obj := { cls := Value.type "tuple", data := Data.seq #[Value.str (Str.ofString "__class__") 286] }
def My.o87 (P : Params) : Obj := { cls := Value.type "tuple", data := Data.seq #[Value.str (Str.ofString "self") 287, Value.str (Str.ofString "size") 288] }
def My.o88 (P : Params) : Obj := { cls := Value.type "tuple", data := Data.seq #[] }
def My.o90 (P : Params) : Obj := { cls := Value.type "code", data := Data.fields #[Value.str (Str.ofString "__init__") 283, Value.str (Str.ofString "LimitExceeded.__init__") 284, Value.str (Str.ofString "/claim/cut.py") 285, Value.int 14 0, Value.int 2 0, Value.int 0 0, Value.int 0 0, Value.int 3 0, Value.ref 85, Value.bool true, Value.int 181 0, Value.ref 86, Value.none, Value.ref 87, Value.ref 88, Value.ref 89, Value.int 289 0, Value.int 14 0, Value.str (Str.ofString "/claim/cut.py") 290] }
def My.o91 (P : Params) : Obj := { cls := Value.type "function", data := Data.func { name := Str.ofString "__init__", qualname := Str.ofString "LimitExceeded.__init__", params := L2.defArgs (L2.inClass (My.hTop 6) 0), body := FuncBody.stmts (L2.defBody (L2.inClass (My.hTop 6) 0)), scope := L2.defScope (L2.inClass (My.hTop 6) 0), globals := 3, closure := [(Str.ofString "__class__", 79)], defaults := Value.none, kwdefaults := Value.none, pyModule := Value.str (Str.ofString "fullqueue.errors") 187, code := Value.ref 90, closureTuple := Value.ref 84 } }
def My.o92 (P : Params) : Obj := { cls := Value.type "tuple", data := Data.seq #[Value.str (Str.ofString "size") 292] }
def My.o93 (P : Params) : Obj := { cls := Value.type "dict", data := Data.dict #[{ hash := PyData.keyHash P (Str.ofString "__module__"), key := Value.str (Str.ofString "__module__") 278, val := Value.str (Str.ofString "fullqueue.errors") 187 }, { hash := PyData.keyHash P (Str.ofString "__firstlineno__"), key := Value.str (Str.ofString "__firstlineno__") 282, val := Value.int 12 281 }, { hash := PyData.keyHash P (Str.ofString "__init__"), key := Value.str (Str.ofString "__init__") 291, val := Value.ref 91 }, { hash := PyData.keyHash P (Str.ofString "__static_attributes__"), key := Value.str (Str.ofString "__static_attributes__") 293, val := Value.ref 92 }, { hash := PyData.keyHash P (Str.ofString "__weakref__"), key := Value.str (Str.ofString "__weakref__") 296, val := Value.ref 95 }, { hash := PyData.keyHash P (Str.ofString "__doc__"), key := Value.str (Str.ofString "__doc__") 297, val := Value.none }] 4 }
def My.o94 (P : Params) : Obj := { cls := Value.type "type", data := Data.cls { name := Str.ofString "LimitExceeded", bases := [Value.type "OverflowError"], mro := [Value.ref 94, Value.type "OverflowError", Value.type "ArithmeticError", Value.type "Exception", Value.type "BaseException", Value.type "object"], ns := 93, qualname := Str.ofString "LimitExceeded" }, slots := #[some (Value.ref 76), none, some (Value.str (Str.ofString "LimitExceeded") 271), some (Value.str (Str.ofString "LimitExceeded") 279), some (Value.builtin "OverflowError.__new__"), some (Value.bool true)] }
def My.o95 (P : Params) : Obj := { cls := Value.type "getset_descriptor", data := Data.fields #[Value.str (Str.ofString "__weakref__") 295, Value.ref 94, Value.builtin "ExceptionGroup.__weakref__", Value.none] }
def My.o98 (P : Params) : Obj := { cls := Value.type "tuple", data := Data.seq #[] }
def My.o100 (P : Params) : Obj := { cls := Value.type "tuple", data := Data.seq #[Value.str (Str.ofString "value") 311] }
def My.o101 (P : Params) : Obj := { cls := Value.type "tuple", data := Data.seq #[] }
def My.o103 (P : Params) : Obj := { cls := Value.type "code", data := Data.fields #[Value.str (Str.ofString "is_int") 308, Value.str (Str.ofString "is_int") 309, Value.str (Str.ofString "/claim/cut.py") 310, Value.int 20 0, Value.int 1 0, Value.int 0 0, Value.int 0 0, Value.int 3 0, Value.ref 98, Value.bool true, Value.int 181 0, Value.ref 99, Value.none, Value.ref 100, Value.ref 101, Value.ref 102, Value.int 312 0, Value.int 20 0, Value.str (Str.ofString "/claim/cut.py") 313] }
def My.o104 (P : Params) : Obj := { cls := Value.type "function", data := Data.func { name := Str.ofString "is_int", qualname := Str.ofString "is_int", params := L2.defArgs (My.hTop 10), body := FuncBody.stmts (L2.defBody (My.hTop 10)), scope := L2.defScope (My.hTop 10), globals := 3, closure := [], defaults := Value.none, kwdefaults := Value.none, pyModule := Value.str (Str.ofString "fullqueue.integers") 302, code := Value.ref 103 } }
def My.o105 (P : Params) : Obj := { cls := Value.type "tuple", data := Data.seq #[] }
def My.o107 (P : Params) : Obj := { cls := Value.type "tuple", data := Data.seq #[Value.str (Str.ofString "value") 318] }
def My.o108 (P : Params) : Obj := { cls := Value.type "tuple", data := Data.seq #[] }
def My.o110 (P : Params) : Obj := { cls := Value.type "code", data := Data.fields #[Value.str (Str.ofString "is_natural") 315, Value.str (Str.ofString "is_natural") 316, Value.str (Str.ofString "/claim/cut.py") 317, Value.int 22 0, Value.int 1 0, Value.int 0 0, Value.int 0 0, Value.int 3 0, Value.ref 105, Value.bool true, Value.int 181 0, Value.ref 106, Value.none, Value.ref 107, Value.ref 108, Value.ref 109, Value.int 319 0, Value.int 22 0, Value.str (Str.ofString "/claim/cut.py") 320] }
def My.o111 (P : Params) : Obj := { cls := Value.type "function", data := Data.func { name := Str.ofString "is_natural", qualname := Str.ofString "is_natural", params := L2.defArgs (My.hTop 11), body := FuncBody.stmts (L2.defBody (My.hTop 11)), scope := L2.defScope (My.hTop 11), globals := 3, closure := [], defaults := Value.none, kwdefaults := Value.none, pyModule := Value.str (Str.ofString "fullqueue.integers") 302, code := Value.ref 110 } }
def My.o112 (P : Params) : Obj := { cls := Value.type "tuple", data := Data.seq #[] }
def My.o114 (P : Params) : Obj := { cls := Value.type "tuple", data := Data.seq #[Value.str (Str.ofString "value") 325, Value.str (Str.ofString "least") 326, Value.str (Str.ofString "most") 327] }
def My.o115 (P : Params) : Obj := { cls := Value.type "tuple", data := Data.seq #[] }
def My.o117 (P : Params) : Obj := { cls := Value.type "code", data := Data.fields #[Value.str (Str.ofString "is_int_between") 322, Value.str (Str.ofString "is_int_between") 323, Value.str (Str.ofString "/claim/cut.py") 324, Value.int 24 0, Value.int 3 0, Value.int 0 0, Value.int 0 0, Value.int 3 0, Value.ref 112, Value.bool true, Value.int 181 0, Value.ref 113, Value.none, Value.ref 114, Value.ref 115, Value.ref 116, Value.int 328 0, Value.int 24 0, Value.str (Str.ofString "/claim/cut.py") 329] }
def My.o118 (P : Params) : Obj := { cls := Value.type "function", data := Data.func { name := Str.ofString "is_int_between", qualname := Str.ofString "is_int_between", params := L2.defArgs (My.hTop 12), body := FuncBody.stmts (L2.defBody (My.hTop 12)), scope := L2.defScope (My.hTop 12), globals := 3, closure := [], defaults := Value.none, kwdefaults := Value.none, pyModule := Value.str (Str.ofString "fullqueue.integers") 302, code := Value.ref 117 } }
def My.o119 (P : Params) : Obj := { cls := Value.type "tuple", data := Data.seq #[] }
def My.o121 (P : Params) : Obj := { cls := Value.type "tuple", data := Data.seq #[Value.str (Str.ofString "text") 334, Value.str (Str.ofString "digits") 335, Value.str (Str.ofString "number") 336] }
def My.o122 (P : Params) : Obj := { cls := Value.type "tuple", data := Data.seq #[] }
def My.o124 (P : Params) : Obj := { cls := Value.type "code", data := Data.fields #[Value.str (Str.ofString "read_integer") 331, Value.str (Str.ofString "read_integer") 332, Value.str (Str.ofString "/claim/cut.py") 333, Value.int 26 0, Value.int 1 0, Value.int 0 0, Value.int 0 0, Value.int 3 0, Value.ref 119, Value.bool true, Value.int 181 0, Value.ref 120, Value.none, Value.ref 121, Value.ref 122, Value.ref 123, Value.int 337 0, Value.int 26 0, Value.str (Str.ofString "/claim/cut.py") 338] }
def My.o125 (P : Params) : Obj := { cls := Value.type "function", data := Data.func { name := Str.ofString "read_integer", qualname := Str.ofString "read_integer", params := L2.defArgs (My.hTop 13), body := FuncBody.stmts (L2.defBody (My.hTop 13)), scope := L2.defScope (My.hTop 13), globals := 3, closure := [], defaults := Value.none, kwdefaults := Value.none, pyModule := Value.str (Str.ofString "fullqueue.integers") 302, code := Value.ref 124 } }
def My.o126 (P : Params) : Obj := { cls := Value.type "tuple", data := Data.seq #[] }
def My.o128 (P : Params) : Obj := { cls := Value.type "tuple", data := Data.seq #[Value.str (Str.ofString "value") 357] }
def My.o129 (P : Params) : Obj := { cls := Value.type "tuple", data := Data.seq #[] }
def My.o131 (P : Params) : Obj := { cls := Value.type "code", data := Data.fields #[Value.str (Str.ofString "is_program") 354, Value.str (Str.ofString "is_program") 355, Value.str (Str.ofString "/claim/cut.py") 356, Value.int 38 0, Value.int 1 0, Value.int 0 0, Value.int 0 0, Value.int 3 0, Value.ref 126, Value.bool true, Value.int 181 0, Value.ref 127, Value.none, Value.ref 128, Value.ref 129, Value.ref 130, Value.int 358 0, Value.int 38 0, Value.str (Str.ofString "/claim/cut.py") 359] }
def My.o132 (P : Params) : Obj := { cls := Value.type "function", data := Data.func { name := Str.ofString "is_program", qualname := Str.ofString "is_program", params := L2.defArgs (My.hTop 20), body := FuncBody.stmts (L2.defBody (My.hTop 20)), scope := L2.defScope (My.hTop 20), globals := 3, closure := [], defaults := Value.none, kwdefaults := Value.none, pyModule := Value.str (Str.ofString "fullqueue.programs") 340, code := Value.ref 131 } }
def My.o133 (P : Params) : Obj := { cls := Value.type "tuple", data := Data.seq #[] }
def My.o135 (P : Params) : Obj := { cls := Value.type "tuple", data := Data.seq #[Value.str (Str.ofString "value") 364] }
def My.o136 (P : Params) : Obj := { cls := Value.type "tuple", data := Data.seq #[] }
def My.o138 (P : Params) : Obj := { cls := Value.type "code", data := Data.fields #[Value.str (Str.ofString "is_sequence") 361, Value.str (Str.ofString "is_sequence") 362, Value.str (Str.ofString "/claim/cut.py") 363, Value.int 40 0, Value.int 1 0, Value.int 0 0, Value.int 0 0, Value.int 3 0, Value.ref 133, Value.bool true, Value.int 181 0, Value.ref 134, Value.none, Value.ref 135, Value.ref 136, Value.ref 137, Value.int 365 0, Value.int 40 0, Value.str (Str.ofString "/claim/cut.py") 366] }
def My.o139 (P : Params) : Obj := { cls := Value.type "function", data := Data.func { name := Str.ofString "is_sequence", qualname := Str.ofString "is_sequence", params := L2.defArgs (My.hTop 21), body := FuncBody.stmts (L2.defBody (My.hTop 21)), scope := L2.defScope (My.hTop 21), globals := 3, closure := [], defaults := Value.none, kwdefaults := Value.none, pyModule := Value.str (Str.ofString "fullqueue.programs") 340, code := Value.ref 138 } }
def My.o140 (P : Params) : Obj := { cls := Value.type "tuple", data := Data.seq #[] }
def My.o142 (P : Params) : Obj := { cls := Value.type "tuple", data := Data.seq #[Value.str (Str.ofString "value") 371] }
def My.o143 (P : Params) : Obj := { cls := Value.type "tuple", data := Data.seq #[] }
def My.o145 (P : Params) : Obj := { cls := Value.type "code", data := Data.fields #[Value.str (Str.ofString "is_count") 368, Value.str (Str.ofString "is_count") 369, Value.str (Str.ofString "/claim/cut.py") 370, Value.int 42 0, Value.int 1 0, Value.int 0 0, Value.int 0 0, Value.int 3 0, Value.ref 140, Value.bool true, Value.int 181 0, Value.ref 141, Value.none, Value.ref 142, Value.ref 143, Value.ref 144, Value.int 372 0, Value.int 42 0, Value.str (Str.ofString "/claim/cut.py") 373] }
def My.o146 (P : Params) : Obj := { cls := Value.type "function", data := Data.func { name := Str.ofString "is_count", qualname := Str.ofString "is_count", params := L2.defArgs (My.hTop 22), body := FuncBody.stmts (L2.defBody (My.hTop 22)), scope := L2.defScope (My.hTop 22), globals := 3, closure := [], defaults := Value.none, kwdefaults := Value.none, pyModule := Value.str (Str.ofString "fullqueue.programs") 340, code := Value.ref 145 } }
def My.o147 (P : Params) : Obj := { cls := Value.type "tuple", data := Data.seq #[] }
def My.o149 (P : Params) : Obj := { cls := Value.type "tuple", data := Data.seq #[Value.str (Str.ofString "value") 378] }
def My.o150 (P : Params) : Obj := { cls := Value.type "tuple", data := Data.seq #[] }
def My.o152 (P : Params) : Obj := { cls := Value.type "code", data := Data.fields #[Value.str (Str.ofString "check_count") 375, Value.str (Str.ofString "check_count") 376, Value.str (Str.ofString "/claim/cut.py") 377, Value.int 44 0, Value.int 1 0, Value.int 0 0, Value.int 0 0, Value.int 3 0, Value.ref 147, Value.bool true, Value.int 181 0, Value.ref 148, Value.none, Value.ref 149, Value.ref 150, Value.ref 151, Value.int 379 0, Value.int 44 0, Value.str (Str.ofString "/claim/cut.py") 380] }
def My.o153 (P : Params) : Obj := { cls := Value.type "function", data := Data.func { name := Str.ofString "check_count", qualname := Str.ofString "check_count", params := L2.defArgs (My.hTop 23), body := FuncBody.stmts (L2.defBody (My.hTop 23)), scope := L2.defScope (My.hTop 23), globals := 3, closure := [], defaults := Value.none, kwdefaults := Value.none, pyModule := Value.str (Str.ofString "fullqueue.programs") 340, code := Value.ref 152 } }
def My.o154 (P : Params) : Obj := { cls := Value.type "tuple", data := Data.seq #[] }
def My.o156 (P : Params) : Obj := { cls := Value.type "tuple", data := Data.seq #[Value.str (Str.ofString "program") 385] }
def My.o157 (P : Params) : Obj := { cls := Value.type "tuple", data := Data.seq #[] }
def My.o159 (P : Params) : Obj := { cls := Value.type "code", data := Data.fields #[Value.str (Str.ofString "count_steps") 382, Value.str (Str.ofString "count_steps") 383, Value.str (Str.ofString "/claim/cut.py") 384, Value.int 47 0, Value.int 1 0, Value.int 0 0, Value.int 0 0, Value.int 3 0, Value.ref 154, Value.bool true, Value.int 181 0, Value.ref 155, Value.none, Value.ref 156, Value.ref 157, Value.ref 158, Value.int 386 0, Value.int 47 0, Value.str (Str.ofString "/claim/cut.py") 387] }
def My.o160 (P : Params) : Obj := { cls := Value.type "function", data := Data.func { name := Str.ofString "count_steps", qualname := Str.ofString "count_steps", params := L2.defArgs (My.hTop 24), body := FuncBody.stmts (L2.defBody (My.hTop 24)), scope := L2.defScope (My.hTop 24), globals := 3, closure := [], defaults := Value.none, kwdefaults := Value.none, pyModule := Value.str (Str.ofString "fullqueue.programs") 340, code := Value.ref 159 } }
def My.o161 (P : Params) : Obj := { cls := Value.type "tuple", data := Data.seq #[] }
def My.o163 (P : Params) : Obj := { cls := Value.type "tuple", data := Data.seq #[Value.str (Str.ofString "program") 392, Value.str (Str.ofString "parts") 393, Value.str (Str.ofString "size") 394] }
def My.o164 (P : Params) : Obj := { cls := Value.type "tuple", data := Data.seq #[] }
def My.o166 (P : Params) : Obj := { cls := Value.type "code", data := Data.fields #[Value.str (Str.ofString "write_out") 389, Value.str (Str.ofString "write_out") 390, Value.str (Str.ofString "/claim/cut.py") 391, Value.int 49 0, Value.int 1 0, Value.int 0 0, Value.int 0 0, Value.int 3 0, Value.ref 161, Value.bool true, Value.int 181 0, Value.ref 162, Value.none, Value.ref 163, Value.ref 164, Value.ref 165, Value.int 395 0, Value.int 49 0, Value.str (Str.ofString "/claim/cut.py") 396] }
def My.o167 (P : Params) : Obj := { cls := Value.type "function", data := Data.func { name := Str.ofString "write_out", qualname := Str.ofString "write_out", params := L2.defArgs (My.hTop 25), body := FuncBody.stmts (L2.defBody (My.hTop 25)), scope := L2.defScope (My.hTop 25), globals := 3, closure := [], defaults := Value.none, kwdefaults := Value.none, pyModule := Value.str (Str.ofString "fullqueue.programs") 340, code := Value.ref 166 } }
def My.o168 (P : Params) : Obj := { cls := Value.type "tuple", data := Data.seq #[] }
def My.o170 (P : Params) : Obj := { cls := Value.type "tuple", data := Data.seq #[Value.str (Str.ofString "program") 401, Value.str (Str.ofString "count") 402, Value.str (Str.ofString "parts") 403] }
def My.o171 (P : Params) : Obj := { cls := Value.type "tuple", data := Data.seq #[] }
def My.o173 (P : Params) : Obj := { cls := Value.type "code", data := Data.fields #[Value.str (Str.ofString "last_puts") 398, Value.str (Str.ofString "last_puts") 399, Value.str (Str.ofString "/claim/cut.py") 400, Value.int 55 0, Value.int 2 0, Value.int 0 0, Value.int 0 0, Value.int 3 0, Value.ref 168, Value.bool true, Value.int 181 0, Value.ref 169, Value.none, Value.ref 170, Value.ref 171, Value.ref 172, Value.int 404 0, Value.int 55 0, Value.str (Str.ofString "/claim/cut.py") 405] }
def My.o174 (P : Params) : Obj := { cls := Value.type "function", data := Data.func { name := Str.ofString "last_puts", qualname := Str.ofString "last_puts", params := L2.defArgs (My.hTop 26), body := FuncBody.stmts (L2.defBody (My.hTop 26)), scope := L2.defScope (My.hTop 26), globals := 3, closure := [], defaults := Value.none, kwdefaults := Value.none, pyModule := Value.str (Str.ofString "fullqueue.programs") 340, code := Value.ref 173 } }
def My.o175 (P : Params) : Obj := { cls := Value.type "tuple", data := Data.seq #[] }
def My.o177 (P : Params) : Obj := { cls := Value.type "tuple", data := Data.seq #[Value.str (Str.ofString "program") 410, Value.str (Str.ofString "count") 411, Value.str (Str.ofString "parts") 412, Value.str (Str.ofString "depth") 413] }
def My.o178 (P : Params) : Obj := { cls := Value.type "tuple", data := Data.seq #[] }
def My.o180 (P : Params) : Obj := { cls := Value.type "code", data := Data.fields #[Value.str (Str.ofString "repeat") 407, Value.str (Str.ofString "repeat") 408, Value.str (Str.ofString "/claim/cut.py") 409, Value.int 60 0, Value.int 2 0, Value.int 0 0, Value.int 0 0, Value.int 3 0, Value.ref 175, Value.bool true, Value.int 181 0, Value.ref 176, Value.none, Value.ref 177, Value.ref 178, Value.ref 179, Value.int 414 0, Value.int 60 0, Value.str (Str.ofString "/claim/cut.py") 415] }
def My.o181 (P : Params) : Obj := { cls := Value.type "function", data := Data.func { name := Str.ofString "repeat", qualname := Str.ofString "repeat", params := L2.defArgs (My.hTop 27), body := FuncBody.stmts (L2.defBody (My.hTop 27)), scope := L2.defScope (My.hTop 27), globals := 3, closure := [], defaults := Value.none, kwdefaults := Value.none, pyModule := Value.str (Str.ofString "fullqueue.programs") 340, code := Value.ref 180 } }
def My.o182 (P : Params) : Obj := { cls := Value.type "tuple", data := Data.seq #[] }
def My.o184 (P : Params) : Obj := { cls := Value.type "tuple", data := Data.seq #[Value.str (Str.ofString "program") 420, Value.str (Str.ofString "parts") 421] }
def My.o185 (P : Params) : Obj := { cls := Value.type "tuple", data := Data.seq #[] }
def My.o187 (P : Params) : Obj := { cls := Value.type "code", data := Data.fields #[Value.str (Str.ofString "parts_of") 417, Value.str (Str.ofString "parts_of") 418, Value.str (Str.ofString "/claim/cut.py") 419, Value.int 67 0, Value.int 1 0, Value.int 0 0, Value.int 0 0, Value.int 3 0, Value.ref 182, Value.bool true, Value.int 181 0, Value.ref 183, Value.none, Value.ref 184, Value.ref 185, Value.ref 186, Value.int 422 0, Value.int 67 0, Value.str (Str.ofString "/claim/cut.py") 423] }
def My.o188 (P : Params) : Obj := { cls := Value.type "function", data := Data.func { name := Str.ofString "parts_of", qualname := Str.ofString "parts_of", params := L2.defArgs (My.hTop 28), body := FuncBody.stmts (L2.defBody (My.hTop 28)), scope := L2.defScope (My.hTop 28), globals := 3, closure := [], defaults := Value.none, kwdefaults := Value.none, pyModule := Value.str (Str.ofString "fullqueue.programs") 340, code := Value.ref 187 } }
def My.o189 (P : Params) : Obj := { cls := Value.type "tuple", data := Data.seq #[] }
def My.o191 (P : Params) : Obj := { cls := Value.type "tuple", data := Data.seq #[Value.str (Str.ofString "text") 428, Value.str (Str.ofString "outer") 429, Value.str (Str.ofString "parts") 430, Value.str (Str.ofString "at") 431, Value.str (Str.ofString "end") 432, Value.str (Str.ofString "count") 433, Value.str (Str.ofString "repetition") 434] }
def My.o192 (P : Params) : Obj := { cls := Value.type "tuple", data := Data.seq #[] }
def My.o194 (P : Params) : Obj := { cls := Value.type "code", data := Data.fields #[Value.str (Str.ofString "read_parts") 425, Value.str (Str.ofString "read_parts") 426, Value.str (Str.ofString "/claim/cut.py") 427, Value.int 72 0, Value.int 1 0, Value.int 0 0, Value.int 0 0, Value.int 3 0, Value.ref 189, Value.bool true, Value.int 181 0, Value.ref 190, Value.none, Value.ref 191, Value.ref 192, Value.ref 193, Value.int 435 0, Value.int 72 0, Value.str (Str.ofString "/claim/cut.py") 436] }
def My.o195 (P : Params) : Obj := { cls := Value.type "function", data := Data.func { name := Str.ofString "read_parts", qualname := Str.ofString "read_parts", params := L2.defArgs (My.hTop 29), body := FuncBody.stmts (L2.defBody (My.hTop 29)), scope := L2.defScope (My.hTop 29), globals := 3, closure := [], defaults := Value.none, kwdefaults := Value.none, pyModule := Value.str (Str.ofString "fullqueue.programs") 340, code := Value.ref 194 } }
def My.o196 (P : Params) : Obj := { cls := Value.type "tuple", data := Data.seq #[] }
def My.o198 (P : Params) : Obj := { cls := Value.type "tuple", data := Data.seq #[Value.str (Str.ofString "text") 441, Value.str (Str.ofString "start") 442, Value.str (Str.ofString "signs") 443, Value.str (Str.ofString "end") 444] }
def My.o199 (P : Params) : Obj := { cls := Value.type "tuple", data := Data.seq #[] }
def My.o201 (P : Params) : Obj := { cls := Value.type "code", data := Data.fields #[Value.str (Str.ofString "end_of_run") 438, Value.str (Str.ofString "end_of_run") 439, Value.str (Str.ofString "/claim/cut.py") 440, Value.int 96 0, Value.int 3 0, Value.int 0 0, Value.int 0 0, Value.int 3 0, Value.ref 196, Value.bool true, Value.int 181 0, Value.ref 197, Value.none, Value.ref 198, Value.ref 199, Value.ref 200, Value.int 445 0, Value.int 96 0, Value.str (Str.ofString "/claim/cut.py") 446] }
def My.o202 (P : Params) : Obj := { cls := Value.type "function", data := Data.func { name := Str.ofString "end_of_run", qualname := Str.ofString "end_of_run", params := L2.defArgs (My.hTop 30), body := FuncBody.stmts (L2.defBody (My.hTop 30)), scope := L2.defScope (My.hTop 30), globals := 3, closure := [], defaults := Value.none, kwdefaults := Value.none, pyModule := Value.str (Str.ofString "fullqueue.programs") 340, code := Value.ref 201 } }
def My.o203 (P : Params) : Obj := { cls := Value.type "tuple", data := Data.seq #[] }
def My.o205 (P : Params) : Obj := { cls := Value.type "tuple", data := Data.seq #[Value.str (Str.ofString "parts") 451, Value.str (Str.ofString "depth") 452, Value.str (Str.ofString "part") 453, Value.str (Str.ofString "body") 454, Value.str (Str.ofString "_") 455] }
def My.o206 (P : Params) : Obj := { cls := Value.type "tuple", data := Data.seq #[] }
def My.o208 (P : Params) : Obj := { cls := Value.type "code", data := Data.fields #[Value.str (Str.ofString "depth_of") 448, Value.str (Str.ofString "depth_of") 449, Value.str (Str.ofString "/claim/cut.py") 450, Value.int 101 0, Value.int 1 0, Value.int 0 0, Value.int 0 0, Value.int 3 0, Value.ref 203, Value.bool true, Value.int 181 0, Value.ref 204, Value.none, Value.ref 205, Value.ref 206, Value.ref 207, Value.int 456 0, Value.int 101 0, Value.str (Str.ofString "/claim/cut.py") 457] }
def My.o209 (P : Params) : Obj := { cls := Value.type "function", data := Data.func { name := Str.ofString "depth_of", qualname := Str.ofString "depth_of", params := L2.defArgs (My.hTop 31), body := FuncBody.stmts (L2.defBody (My.hTop 31)), scope := L2.defScope (My.hTop 31), globals := 3, closure := [], defaults := Value.none, kwdefaults := Value.none, pyModule := Value.str (Str.ofString "fullqueue.programs") 340, code := Value.ref 208 } }
def My.o210 (P : Params) : Obj := { cls := Value.type "tuple", data := Data.seq #[] }
def My.o212 (P : Params) : Obj := { cls := Value.type "tuple", data := Data.seq #[Value.str (Str.ofString "parts") 462, Value.str (Str.ofString "size") 463, Value.str (Str.ofString "part") 464, Value.str (Str.ofString "body") 465, Value.str (Str.ofString "count") 466] }
def My.o213 (P : Params) : Obj := { cls := Value.type "tuple", data := Data.seq #[] }
def My.o215 (P : Params) : Obj := { cls := Value.type "code", data := Data.fields #[Value.str (Str.ofString "count_part_steps") 459, Value.str (Str.ofString "count_part_steps") 460, Value.str (Str.ofString "/claim/cut.py") 461, Value.int 108 0, Value.int 1 0, Value.int 0 0, Value.int 0 0, Value.int 3 0, Value.ref 210, Value.bool true, Value.int 181 0, Value.ref 211, Value.none, Value.ref 212, Value.ref 213, Value.ref 214, Value.int 467 0, Value.int 108 0, Value.str (Str.ofString "/claim/cut.py") 468] }
def My.o216 (P : Params) : Obj := { cls := Value.type "function", data := Data.func { name := Str.ofString "count_part_steps", qualname := Str.ofString "count_part_steps", params := L2.defArgs (My.hTop 32), body := FuncBody.stmts (L2.defBody (My.hTop 32)), scope := L2.defScope (My.hTop 32), globals := 3, closure := [], defaults := Value.none, kwdefaults := Value.none, pyModule := Value.str (Str.ofString "fullqueue.programs") 340, code := Value.ref 215 } }
def My.o217 (P : Params) : Obj := { cls := Value.type "tuple", data := Data.seq #[] }
def My.o220 (P : Params) : Obj := { cls := Value.type "code", data := Data.fields #[Value.str (Str.ofString "write_parts") 470, Value.str (Str.ofString "write_parts") 471, Value.str (Str.ofString "/claim/cut.py") 472, Value.int 117 0, Value.int 1 0, Value.int 0 0, Value.int 0 0, Value.int 3 0, Value.ref 217, Value.bool true, Value.int 181 0, Value.ref 218, Value.none, Value.none, Value.none, Value.ref 219, Value.int 473 0, Value.int 117 0, Value.str (Str.ofString "/claim/cut.py") 474] }
def My.o221 (P : Params) : Obj := { cls := Value.type "function", data := Data.func { name := Str.ofString "write_parts", qualname := Str.ofString "write_parts", params := L2.defArgs (My.hTop 33), body := FuncBody.stmts (L2.defBody (My.hTop 33)), scope := L2.defScope (My.hTop 33), globals := 3, closure := [], defaults := Value.none, kwdefaults := Value.none, pyModule := Value.str (Str.ofString "fullqueue.programs") 340, code := Value.ref 220 } }
def My.o222 (P : Params) : Obj := { cls := Value.type "tuple", data := Data.seq #[] }
def My.o224 (P : Params) : Obj := { cls := Value.type "tuple", data := Data.seq #[Value.str (Str.ofString "part") 479, Value.str (Str.ofString "body") 480, Value.str (Str.ofString "count") 481, Value.str (Str.ofString "steps") 482] }
def My.o225 (P : Params) : Obj := { cls := Value.type "tuple", data := Data.seq #[] }
def My.o227 (P : Params) : Obj := { cls := Value.type "code", data := Data.fields #[Value.str (Str.ofString "write_part") 476, Value.str (Str.ofString "write_part") 477, Value.str (Str.ofString "/claim/cut.py") 478, Value.int 119 0, Value.int 1 0, Value.int 0 0, Value.int 0 0, Value.int 3 0, Value.ref 222, Value.bool true, Value.int 181 0, Value.ref 223, Value.none, Value.ref 224, Value.ref 225, Value.ref 226, Value.int 483 0, Value.int 119 0, Value.str (Str.ofString "/claim/cut.py") 484] }
def My.o228 (P : Params) : Obj := { cls := Value.type "function", data := Data.func { name := Str.ofString "write_part", qualname := Str.ofString "write_part", params := L2.defArgs (My.hTop 34), body := FuncBody.stmts (L2.defBody (My.hTop 34)), scope := L2.defScope (My.hTop 34), globals := 3, closure := [], defaults := Value.none, kwdefaults := Value.none, pyModule := Value.str (Str.ofString "fullqueue.programs") 340, code := Value.ref 227 } }
def My.o229 (P : Params) : Obj := { cls := Value.type "tuple", data := Data.seq #[] }
def My.o231 (P : Params) : Obj := { cls := Value.type "tuple", data := Data.seq #[Value.str (Str.ofString "parts") 489, Value.str (Str.ofString "most") 490, Value.str (Str.ofString "found") 491, Value.str (Str.ofString "part") 492] }
def My.o232 (P : Params) : Obj := { cls := Value.type "tuple", data := Data.seq #[] }
def My.o234 (P : Params) : Obj := { cls := Value.type "code", data := Data.fields #[Value.str (Str.ofString "last_letters") 486, Value.str (Str.ofString "last_letters") 487, Value.str (Str.ofString "/claim/cut.py") 488, Value.int 125 0, Value.int 2 0, Value.int 0 0, Value.int 0 0, Value.int 3 0, Value.ref 229, Value.bool true, Value.int 181 0, Value.ref 230, Value.none, Value.ref 231, Value.ref 232, Value.ref 233, Value.int 493 0, Value.int 125 0, Value.str (Str.ofString "/claim/cut.py") 494] }
def My.o235 (P : Params) : Obj := { cls := Value.type "function", data := Data.func { name := Str.ofString "last_letters", qualname := Str.ofString "last_letters", params := L2.defArgs (My.hTop 35), body := FuncBody.stmts (L2.defBody (My.hTop 35)), scope := L2.defScope (My.hTop 35), globals := 3, closure := [], defaults := Value.none, kwdefaults := Value.none, pyModule := Value.str (Str.ofString "fullqueue.programs") 340, code := Value.ref 234 } }
def My.o236 (P : Params) : Obj := { cls := Value.type "tuple", data := Data.seq #[] }
def My.o238 (P : Params) : Obj := { cls := Value.type "tuple", data := Data.seq #[Value.str (Str.ofString "part") 499, Value.str (Str.ofString "most") 500, Value.str (Str.ofString "body") 501, Value.str (Str.ofString "count") 502, Value.str (Str.ofString "letters") 503, Value.str (Str.ofString "rounds") 504] }
def My.o239 (P : Params) : Obj := { cls := Value.type "tuple", data := Data.seq #[] }
def My.o241 (P : Params) : Obj := { cls := Value.type "code", data := Data.fields #[Value.str (Str.ofString "last_letters_of_part") 496, Value.str (Str.ofString "last_letters_of_part") 497, Value.str (Str.ofString "/claim/cut.py") 498, Value.int 130 0, Value.int 2 0, Value.int 0 0, Value.int 0 0, Value.int 3 0, Value.ref 236, Value.bool true, Value.int 181 0, Value.ref 237, Value.none, Value.ref 238, Value.ref 239, Value.ref 240, Value.int 505 0, Value.int 130 0, Value.str (Str.ofString "/claim/cut.py") 506] }
def My.o242 (P : Params) : Obj := { cls := Value.type "function", data := Data.func { name := Str.ofString "last_letters_of_part", qualname := Str.ofString "last_letters_of_part", params := L2.defArgs (My.hTop 36), body := FuncBody.stmts (L2.defBody (My.hTop 36)), scope := L2.defScope (My.hTop 36), globals := 3, closure := [], defaults := Value.none, kwdefaults := Value.none, pyModule := Value.str (Str.ofString "fullqueue.programs") 340, code := Value.ref 241 } }
def My.o243 (P : Params) : Obj := { cls := Value.type "tuple", data := Data.seq #[] }
def My.o245 (P : Params) : Obj := { cls := Value.type "tuple", data := Data.seq #[Value.str (Str.ofString "text") 511, Value.str (Str.ofString "most") 512] }
def My.o246 (P : Params) : Obj := { cls := Value.type "tuple", data := Data.seq #[] }
def My.o248 (P : Params) : Obj := { cls := Value.type "code", data := Data.fields #[Value.str (Str.ofString "ending") 508, Value.str (Str.ofString "ending") 509, Value.str (Str.ofString "/claim/cut.py") 510, Value.int 139 0, Value.int 2 0, Value.int 0 0, Value.int 0 0, Value.int 3 0, Value.ref 243, Value.bool true, Value.int 181 0, Value.ref 244, Value.none, Value.ref 245, Value.ref 246, Value.ref 247, Value.int 513 0, Value.int 139 0, Value.str (Str.ofString "/claim/cut.py") 514] }
def My.o249 (P : Params) : Obj := { cls := Value.type "function", data := Data.func { name := Str.ofString "ending", qualname := Str.ofString "ending", params := L2.defArgs (My.hTop 37), body := FuncBody.stmts (L2.defBody (My.hTop 37)), scope := L2.defScope (My.hTop 37), globals := 3, closure := [], defaults := Value.none, kwdefaults := Value.none, pyModule := Value.str (Str.ofString "fullqueue.programs") 340, code := Value.ref 248 } }
def My.o250 (P : Params) : Obj := { cls := Value.type "tuple", data := Data.seq #[Value.str (Str.ofString "oldest") 518, Value.str (Str.ofString "newest") 519, Value.str (Str.ofString "strict") 520] }
def My.o251 (P : Params) : Obj := { cls := Value.type "tuple", data := Data.seq #[] }
def My.o253 (P : Params) : Obj := { cls := Value.type "tuple", data := Data.seq #[Value.str (Str.ofString "value") 527] }
def My.o254 (P : Params) : Obj := { cls := Value.type "tuple", data := Data.seq #[] }
def My.o256 (P : Params) : Obj := { cls := Value.type "code", data := Data.fields #[Value.str (Str.ofString "is_capacity") 524, Value.str (Str.ofString "is_capacity") 525, Value.str (Str.ofString "/claim/cut.py") 526, Value.int 144 0, Value.int 1 0, Value.int 0 0, Value.int 0 0, Value.int 3 0, Value.ref 251, Value.bool true, Value.int 181 0, Value.ref 252, Value.none, Value.ref 253, Value.ref 254, Value.ref 255, Value.int 528 0, Value.int 144 0, Value.str (Str.ofString "/claim/cut.py") 529] }
def My.o257 (P : Params) : Obj := { cls := Value.type "function", data := Data.func { name := Str.ofString "is_capacity", qualname := Str.ofString "is_capacity", params := L2.defArgs (My.hTop 41), body := FuncBody.stmts (L2.defBody (My.hTop 41)), scope := L2.defScope (My.hTop 41), globals := 3, closure := [], defaults := Value.none, kwdefaults := Value.none, pyModule := Value.str (Str.ofString "fullqueue.letters") 516, code := Value.ref 256 } }
def My.o258 (P : Params) : Obj := { cls := Value.type "tuple", data := Data.seq #[] }
def My.o260 (P : Params) : Obj := { cls := Value.type "tuple", data := Data.seq #[Value.str (Str.ofString "value") 534] }
def My.o261 (P : Params) : Obj := { cls := Value.type "tuple", data := Data.seq #[] }
def My.o263 (P : Params) : Obj := { cls := Value.type "code", data := Data.fields #[Value.str (Str.ofString "is_mode") 531, Value.str (Str.ofString "is_mode") 532, Value.str (Str.ofString "/claim/cut.py") 533, Value.int 146 0, Value.int 1 0, Value.int 0 0, Value.int 0 0, Value.int 3 0, Value.ref 258, Value.bool true, Value.int 181 0, Value.ref 259, Value.none, Value.ref 260, Value.ref 261, Value.ref 262, Value.int 535 0, Value.int 146 0, Value.str (Str.ofString "/claim/cut.py") 536] }
def My.o264 (P : Params) : Obj := { cls := Value.type "function", data := Data.func { name := Str.ofString "is_mode", qualname := Str.ofString "is_mode", params := L2.defArgs (My.hTop 42), body := FuncBody.stmts (L2.defBody (My.hTop 42)), scope := L2.defScope (My.hTop 42), globals := 3, closure := [], defaults := Value.none, kwdefaults := Value.none, pyModule := Value.str (Str.ofString "fullqueue.letters") 516, code := Value.ref 263 } }
def My.o265 (P : Params) : Obj := { cls := Value.type "tuple", data := Data.seq #[] }
def My.o267 (P : Params) : Obj := { cls := Value.type "tuple", data := Data.seq #[Value.str (Str.ofString "value") 543] }
def My.o268 (P : Params) : Obj := { cls := Value.type "tuple", data := Data.seq #[] }
def My.o270 (P : Params) : Obj := { cls := Value.type "code", data := Data.fields #[Value.str (Str.ofString "check_capacity") 540, Value.str (Str.ofString "check_capacity") 541, Value.str (Str.ofString "/claim/cut.py") 542, Value.int 149 0, Value.int 1 0, Value.int 0 0, Value.int 0 0, Value.int 3 0, Value.ref 265, Value.bool true, Value.int 181 0, Value.ref 266, Value.none, Value.ref 267, Value.ref 268, Value.ref 269, Value.int 544 0, Value.int 149 0, Value.str (Str.ofString "/claim/cut.py") 545] }
def My.o271 (P : Params) : Obj := { cls := Value.type "function", data := Data.func { name := Str.ofString "check_capacity", qualname := Str.ofString "check_capacity", params := L2.defArgs (My.hTop 44), body := FuncBody.stmts (L2.defBody (My.hTop 44)), scope := L2.defScope (My.hTop 44), globals := 3, closure := [], defaults := Value.none, kwdefaults := Value.none, pyModule := Value.str (Str.ofString "fullqueue.checks") 538, code := Value.ref 270 } }
def My.o272 (P : Params) : Obj := { cls := Value.type "tuple", data := Data.seq #[] }
def My.o274 (P : Params) : Obj := { cls := Value.type "tuple", data := Data.seq #[Value.str (Str.ofString "value") 550] }
def My.o275 (P : Params) : Obj := { cls := Value.type "tuple", data := Data.seq #[] }
def My.o277 (P : Params) : Obj := { cls := Value.type "code", data := Data.fields #[Value.str (Str.ofString "check_mode") 547, Value.str (Str.ofString "check_mode") 548, Value.str (Str.ofString "/claim/cut.py") 549, Value.int 152 0, Value.int 1 0, Value.int 0 0, Value.int 0 0, Value.int 3 0, Value.ref 272, Value.bool true, Value.int 181 0, Value.ref 273, Value.none, Value.ref 274, Value.ref 275, Value.ref 276, Value.int 551 0, Value.int 152 0, Value.str (Str.ofString "/claim/cut.py") 552] }
def My.o278 (P : Params) : Obj := { cls := Value.type "function", data := Data.func { name := Str.ofString "check_mode", qualname := Str.ofString "check_mode", params := L2.defArgs (My.hTop 45), body := FuncBody.stmts (L2.defBody (My.hTop 45)), scope := L2.defScope (My.hTop 45), globals := 3, closure := [], defaults := Value.none, kwdefaults := Value.none, pyModule := Value.str (Str.ofString "fullqueue.checks") 538, code := Value.ref 277 } }
def My.o286 (P : Params) : Obj := { cls := Value.type "tuple", data := Data.seq #[] }
def My.o289 (P : Params) : Obj := { cls := Value.type "code", data := Data.fields #[Value.str (Str.ofString "__init__") 568, Value.str (Str.ofString "Profile.__init__") 569, Value.str (Str.ofString "/claim/cut.py") 570, Value.int 158 0, Value.int 6 0, Value.int 0 0, Value.int 0 0, Value.int 3 0, Value.ref 286, Value.bool true, Value.int 181 0, Value.ref 287, Value.none, Value.none, Value.none, Value.ref 288, Value.int 571 0, Value.int 158 0, Value.str (Str.ofString "/claim/cut.py") 572] }
def My.o290 (P : Params) : Obj := { cls := Value.type "function", data := Data.func { name := Str.ofString "__init__", qualname := Str.ofString "Profile.__init__", params := L2.defArgs (L2.inClass (My.hTop 47) 0), body := FuncBody.stmts (L2.defBody (L2.inClass (My.hTop 47) 0)), scope := L2.defScope (L2.inClass (My.hTop 47) 0), globals := 3, closure := [], defaults := Value.none, kwdefaults := Value.none, pyModule := Value.str (Str.ofString "fullqueue.profiles") 554, code := Value.ref 289 } }
def My.o291 (P : Params) : Obj := { cls := Value.type "tuple", data := Data.seq #[] }
def My.o293 (P : Params) : Obj := { cls := Value.type "tuple", data := Data.seq #[Value.str (Str.ofString "self") 577] }
def My.o294 (P : Params) : Obj := { cls := Value.type "tuple", data := Data.seq #[] }
def My.o296 (P : Params) : Obj := { cls := Value.type "code", data := Data.fields #[Value.str (Str.ofString "puts") 574, Value.str (Str.ofString "Profile.puts") 575, Value.str (Str.ofString "/claim/cut.py") 576, Value.int 169 0, Value.int 1 0, Value.int 0 0, Value.int 0 0, Value.int 3 0, Value.ref 291, Value.bool true, Value.int 181 0, Value.ref 292, Value.none, Value.ref 293, Value.ref 294, Value.ref 295, Value.int 578 0, Value.int 169 0, Value.str (Str.ofString "/claim/cut.py") 579] }
def My.o297 (P : Params) : Obj := { cls := Value.type "function", data := Data.func { name := Str.ofString "puts", qualname := Str.ofString "Profile.puts", params := L2.defArgs (L2.inClass (My.hTop 47) 1), body := FuncBody.stmts (L2.defBody (L2.inClass (My.hTop 47) 1)), scope := L2.defScope (L2.inClass (My.hTop 47) 1), globals := 3, closure := [], defaults := Value.none, kwdefaults := Value.none, pyModule := Value.str (Str.ofString "fullqueue.profiles") 554, code := Value.ref 296 } }
def My.o298 (P : Params) : Obj := { cls := Value.type "property", data := Data.fields #[Value.ref 297, Value.none, Value.none, Value.none, Value.str (Str.ofString "puts") 581, Value.bool false] }
def My.o299 (P : Params) : Obj := { cls := Value.type "tuple", data := Data.seq #[] }
def My.o301 (P : Params) : Obj := { cls := Value.type "tuple", data := Data.seq #[Value.str (Str.ofString "self") 585] }
def My.o302 (P : Params) : Obj := { cls := Value.type "tuple", data := Data.seq #[] }
def My.o304 (P : Params) : Obj := { cls := Value.type "code", data := Data.fields #[Value.str (Str.ofString "takes") 582, Value.str (Str.ofString "Profile.takes") 583, Value.str (Str.ofString "/claim/cut.py") 584, Value.int 173 0, Value.int 1 0, Value.int 0 0, Value.int 0 0, Value.int 3 0, Value.ref 299, Value.bool true, Value.int 181 0, Value.ref 300, Value.none, Value.ref 301, Value.ref 302, Value.ref 303, Value.int 586 0, Value.int 173 0, Value.str (Str.ofString "/claim/cut.py") 587] }
def My.o305 (P : Params) : Obj := { cls := Value.type "function", data := Data.func { name := Str.ofString "takes", qualname := Str.ofString "Profile.takes", params := L2.defArgs (L2.inClass (My.hTop 47) 2), body := FuncBody.stmts (L2.defBody (L2.inClass (My.hTop 47) 2)), scope := L2.defScope (L2.inClass (My.hTop 47) 2), globals := 3, closure := [], defaults := Value.none, kwdefaults := Value.none, pyModule := Value.str (Str.ofString "fullqueue.profiles") 554, code := Value.ref 304 } }
def My.o306 (P : Params) : Obj := { cls := Value.type "property", data := Data.fields #[Value.ref 305, Value.none, Value.none, Value.none, Value.str (Str.ofString "takes") 589, Value.bool false] }
def My.o307 (P : Params) : Obj := { cls := Value.type "tuple", data := Data.seq #[] }
def My.o309 (P : Params) : Obj := { cls := Value.type "tuple", data := Data.seq #[Value.str (Str.ofString "self") 593] }
def My.o310 (P : Params) : Obj := { cls := Value.type "tuple", data := Data.seq #[] }
def My.o312 (P : Params) : Obj := { cls := Value.type "code", data := Data.fields #[Value.str (Str.ofString "low") 590, Value.str (Str.ofString "Profile.low") 591, Value.str (Str.ofString "/claim/cut.py") 592, Value.int 177 0, Value.int 1 0, Value.int 0 0, Value.int 0 0, Value.int 3 0, Value.ref 307, Value.bool true, Value.int 181 0, Value.ref 308, Value.none, Value.ref 309, Value.ref 310, Value.ref 311, Value.int 594 0, Value.int 177 0, Value.str (Str.ofString "/claim/cut.py") 595] }
def My.o313 (P : Params) : Obj := { cls := Value.type "function", data := Data.func { name := Str.ofString "low", qualname := Str.ofString "Profile.low", params := L2.defArgs (L2.inClass (My.hTop 47) 3), body := FuncBody.stmts (L2.defBody (L2.inClass (My.hTop 47) 3)), scope := L2.defScope (L2.inClass (My.hTop 47) 3), globals := 3, closure := [], defaults := Value.none, kwdefaults := Value.none, pyModule := Value.str (Str.ofString "fullqueue.profiles") 554, code := Value.ref 312 } }
def My.o314 (P : Params) : Obj := { cls := Value.type "property", data := Data.fields #[Value.ref 313, Value.none, Value.none, Value.none, Value.str (Str.ofString "low") 597, Value.bool false] }
def My.o315 (P : Params) : Obj := { cls := Value.type "tuple", data := Data.seq #[] }
def My.o317 (P : Params) : Obj := { cls := Value.type "tuple", data := Data.seq #[Value.str (Str.ofString "self") 601] }
def My.o318 (P : Params) : Obj := { cls := Value.type "tuple", data := Data.seq #[] }
def My.o320 (P : Params) : Obj := { cls := Value.type "code", data := Data.fields #[Value.str (Str.ofString "high") 598, Value.str (Str.ofString "Profile.high") 599, Value.str (Str.ofString "/claim/cut.py") 600, Value.int 181 0, Value.int 1 0, Value.int 0 0, Value.int 0 0, Value.int 3 0, Value.ref 315, Value.bool true, Value.int 181 0, Value.ref 316, Value.none, Value.ref 317, Value.ref 318, Value.ref 319, Value.int 602 0, Value.int 181 0, Value.str (Str.ofString "/claim/cut.py") 603] }
def My.o321 (P : Params) : Obj := { cls := Value.type "function", data := Data.func { name := Str.ofString "high", qualname := Str.ofString "Profile.high", params := L2.defArgs (L2.inClass (My.hTop 47) 4), body := FuncBody.stmts (L2.defBody (L2.inClass (My.hTop 47) 4)), scope := L2.defScope (L2.inClass (My.hTop 47) 4), globals := 3, closure := [], defaults := Value.none, kwdefaults := Value.none, pyModule := Value.str (Str.ofString "fullqueue.profiles") 554, code := Value.ref 320 } }
def My.o322 (P : Params) : Obj := { cls := Value.type "property", data := Data.fields #[Value.ref 321, Value.none, Value.none, Value.none, Value.str (Str.ofString "high") 605, Value.bool false] }
def My.o323 (P : Params) : Obj := { cls := Value.type "tuple", data := Data.seq #[] }
def My.o325 (P : Params) : Obj := { cls := Value.type "tuple", data := Data.seq #[Value.str (Str.ofString "self") 609] }
def My.o326 (P : Params) : Obj := { cls := Value.type "tuple", data := Data.seq #[] }
def My.o328 (P : Params) : Obj := { cls := Value.type "code", data := Data.fields #[Value.str (Str.ofString "fall") 606, Value.str (Str.ofString "Profile.fall") 607, Value.str (Str.ofString "/claim/cut.py") 608, Value.int 185 0, Value.int 1 0, Value.int 0 0, Value.int 0 0, Value.int 3 0, Value.ref 323, Value.bool true, Value.int 181 0, Value.ref 324, Value.none, Value.ref 325, Value.ref 326, Value.ref 327, Value.int 610 0, Value.int 185 0, Value.str (Str.ofString "/claim/cut.py") 611] }
def My.o329 (P : Params) : Obj := { cls := Value.type "function", data := Data.func { name := Str.ofString "fall", qualname := Str.ofString "Profile.fall", params := L2.defArgs (L2.inClass (My.hTop 47) 5), body := FuncBody.stmts (L2.defBody (L2.inClass (My.hTop 47) 5)), scope := L2.defScope (L2.inClass (My.hTop 47) 5), globals := 3, closure := [], defaults := Value.none, kwdefaults := Value.none, pyModule := Value.str (Str.ofString "fullqueue.profiles") 554, code := Value.ref 328 } }
def My.o330 (P : Params) : Obj := { cls := Value.type "property", data := Data.fields #[Value.ref 329, Value.none, Value.none, Value.none, Value.str (Str.ofString "fall") 613, Value.bool false] }
def My.o331 (P : Params) : Obj := { cls := Value.type "tuple", data := Data.seq #[] }
def My.o333 (P : Params) : Obj := { cls := Value.type "tuple", data := Data.seq #[Value.str (Str.ofString "self") 617] }
def My.o334 (P : Params) : Obj := { cls := Value.type "tuple", data := Data.seq #[] }
def My.o336 (P : Params) : Obj := { cls := Value.type "code", data := Data.fields #[Value.str (Str.ofString "offset") 614, Value.str (Str.ofString "Profile.offset") 615, Value.str (Str.ofString "/claim/cut.py") 616, Value.int 189 0, Value.int 1 0, Value.int 0 0, Value.int 0 0, Value.int 3 0, Value.ref 331, Value.bool true, Value.int 181 0, Value.ref 332, Value.none, Value.ref 333, Value.ref 334, Value.ref 335, Value.int 618 0, Value.int 189 0, Value.str (Str.ofString "/claim/cut.py") 619] }
def My.o337 (P : Params) : Obj := { cls := Value.type "function", data := Data.func { name := Str.ofString "offset", qualname := Str.ofString "Profile.offset", params := L2.defArgs (L2.inClass (My.hTop 47) 6), body := FuncBody.stmts (L2.defBody (L2.inClass (My.hTop 47) 6)), scope := L2.defScope (L2.inClass (My.hTop 47) 6), globals := 3, closure := [], defaults := Value.none, kwdefaults := Value.none, pyModule := Value.str (Str.ofString "fullqueue.profiles") 554, code := Value.ref 336 } }
def My.o338 (P : Params) : Obj := { cls := Value.type "property", data := Data.fields #[Value.ref 337, Value.none, Value.none, Value.none, Value.str (Str.ofString "offset") 621, Value.bool false] }
def My.o339 (P : Params) : Obj := { cls := Value.type "tuple", data := Data.seq #[] }
def My.o341 (P : Params) : Obj := { cls := Value.type "tuple", data := Data.seq #[Value.str (Str.ofString "cls") 625, Value.str (Str.ofString "program") 626] }
def My.o342 (P : Params) : Obj := { cls := Value.type "tuple", data := Data.seq #[] }
def My.o344 (P : Params) : Obj := { cls := Value.type "code", data := Data.fields #[Value.str (Str.ofString "of") 622, Value.str (Str.ofString "Profile.of") 623, Value.str (Str.ofString "/claim/cut.py") 624, Value.int 193 0, Value.int 2 0, Value.int 0 0, Value.int 0 0, Value.int 3 0, Value.ref 339, Value.bool true, Value.int 181 0, Value.ref 340, Value.none, Value.ref 341, Value.ref 342, Value.ref 343, Value.int 627 0, Value.int 193 0, Value.str (Str.ofString "/claim/cut.py") 628] }
def My.o345 (P : Params) : Obj := { cls := Value.type "function", data := Data.func { name := Str.ofString "of", qualname := Str.ofString "Profile.of", params := L2.defArgs (L2.inClass (My.hTop 47) 7), body := FuncBody.stmts (L2.defBody (L2.inClass (My.hTop 47) 7)), scope := L2.defScope (L2.inClass (My.hTop 47) 7), globals := 3, closure := [], defaults := Value.none, kwdefaults := Value.none, pyModule := Value.str (Str.ofString "fullqueue.profiles") 554, annotations := some 348, code := Value.ref 344 } }
def My.o346 (P : Params) : Obj := { cls := Value.type "dict", data := Data.dict #[{ hash := PyData.keyHash P (Str.ofString "__module__"), key := Value.str (Str.ofString "__module__") 630, val := Value.str (Str.ofString "fullqueue.profiles") 554 }, { hash := PyData.keyHash P (Str.ofString "__name__"), key := Value.str (Str.ofString "__name__") 633, val := Value.str (Str.ofString "of") 632 }, { hash := PyData.keyHash P (Str.ofString "__qualname__"), key := Value.str (Str.ofString "__qualname__") 636, val := Value.str (Str.ofString "Profile.of") 635 }, { hash := PyData.keyHash P (Str.ofString "__doc__"), key := Value.str (Str.ofString "__doc__") 638, val := Value.none }, { hash := PyData.keyHash P (Str.ofString "__annotations__"), key := Value.str (Str.ofString "__annotations__") 640, val := Value.ref 348 }] 5 }
def My.o347 (P : Params) : Obj := { cls := Value.type "classmethod", dict := some 346, data := Data.fields #[Value.ref 345, Value.bool false] }
def My.o348 (P : Params) : Obj := { cls := Value.type "dict", data := Data.dict #[] }
def My.o349 (P : Params) : Obj := { cls := Value.type "tuple", data := Data.seq #[] }
def My.o351 (P : Params) : Obj := { cls := Value.type "tuple", data := Data.seq #[Value.str (Str.ofString "cls") 645, Value.str (Str.ofString "parts") 646, Value.str (Str.ofString "total") 647, Value.str (Str.ofString "part") 648, Value.str (Str.ofString "body") 649, Value.str (Str.ofString "count") 650] }
def My.o352 (P : Params) : Obj := { cls := Value.type "tuple", data := Data.seq #[] }
def My.o354 (P : Params) : Obj := { cls := Value.type "code", data := Data.fields #[Value.str (Str.ofString "_of_parts") 642, Value.str (Str.ofString "Profile._of_parts") 643, Value.str (Str.ofString "/claim/cut.py") 644, Value.int 197 0, Value.int 2 0, Value.int 0 0, Value.int 0 0, Value.int 3 0, Value.ref 349, Value.bool true, Value.int 181 0, Value.ref 350, Value.none, Value.ref 351, Value.ref 352, Value.ref 353, Value.int 651 0, Value.int 197 0, Value.str (Str.ofString "/claim/cut.py") 652] }
def My.o355 (P : Params) : Obj := { cls := Value.type "function", data := Data.func { name := Str.ofString "_of_parts", qualname := Str.ofString "Profile._of_parts", params := L2.defArgs (L2.inClass (My.hTop 47) 8), body := FuncBody.stmts (L2.defBody (L2.inClass (My.hTop 47) 8)), scope := L2.defScope (L2.inClass (My.hTop 47) 8), globals := 3, closure := [], defaults := Value.none, kwdefaults := Value.none, pyModule := Value.str (Str.ofString "fullqueue.profiles") 554, annotations := some 358, code := Value.ref 354 } }
def My.o356 (P : Params) : Obj := { cls := Value.type "dict", data := Data.dict #[{ hash := PyData.keyHash P (Str.ofString "__module__"), key := Value.str (Str.ofString "__module__") 654, val := Value.str (Str.ofString "fullqueue.profiles") 554 }, { hash := PyData.keyHash P (Str.ofString "__name__"), key := Value.str (Str.ofString "__name__") 657, val := Value.str (Str.ofString "_of_parts") 656 }, { hash := PyData.keyHash P (Str.ofString "__qualname__"), key := Value.str (Str.ofString "__qualname__") 660, val := Value.str (Str.ofString "Profile._of_parts") 659 }, { hash := PyData.keyHash P (Str.ofString "__doc__"), key := Value.str (Str.ofString "__doc__") 662, val := Value.none }, { hash := PyData.keyHash P (Str.ofString "__annotations__"), key := Value.str (Str.ofString "__annotations__") 664, val := Value.ref 358 }] 5 }
def My.o357 (P : Params) : Obj := { cls := Value.type "classmethod", dict := some 356, data := Data.fields #[Value.ref 355, Value.bool false] }
def My.o358 (P : Params) : Obj := { cls := Value.type "dict", data := Data.dict #[] }
def My.o359 (P : Params) : Obj := { cls := Value.type "tuple", data := Data.seq #[] }
def My.o361 (P : Params) : Obj := { cls := Value.type "tuple", data := Data.seq #[Value.str (Str.ofString "cls") 669, Value.str (Str.ofString "sequence") 670, Value.str (Str.ofString "offset") 671, Value.str (Str.ofString "low") 672, Value.str (Str.ofString "high") 673, Value.str (Str.ofString "fall") 674, Value.str (Str.ofString "step") 675, Value.str (Str.ofString "takes") 676] }
def My.o362 (P : Params) : Obj := { cls := Value.type "tuple", data := Data.seq #[] }
def My.o364 (P : Params) : Obj := { cls := Value.type "code", data := Data.fields #[Value.str (Str.ofString "_of_sequence") 666, Value.str (Str.ofString "Profile._of_sequence") 667, Value.str (Str.ofString "/claim/cut.py") 668, Value.int 208 0, Value.int 2 0, Value.int 0 0, Value.int 0 0, Value.int 3 0, Value.ref 359, Value.bool true, Value.int 181 0, Value.ref 360, Value.none, Value.ref 361, Value.ref 362, Value.ref 363, Value.int 677 0, Value.int 208 0, Value.str (Str.ofString "/claim/cut.py") 678] }
def My.o365 (P : Params) : Obj := { cls := Value.type "function", data := Data.func { name := Str.ofString "_of_sequence", qualname := Str.ofString "Profile._of_sequence", params := L2.defArgs (L2.inClass (My.hTop 47) 9), body := FuncBody.stmts (L2.defBody (L2.inClass (My.hTop 47) 9)), scope := L2.defScope (L2.inClass (My.hTop 47) 9), globals := 3, closure := [], defaults := Value.none, kwdefaults := Value.none, pyModule := Value.str (Str.ofString "fullqueue.profiles") 554, annotations := some 368, code := Value.ref 364 } }
def My.o366 (P : Params) : Obj := { cls := Value.type "dict", data := Data.dict #[{ hash := PyData.keyHash P (Str.ofString "__module__"), key := Value.str (Str.ofString "__module__") 680, val := Value.str (Str.ofString "fullqueue.profiles") 554 }, { hash := PyData.keyHash P (Str.ofString "__name__"), key := Value.str (Str.ofString "__name__") 683, val := Value.str (Str.ofString "_of_sequence") 682 }, { hash := PyData.keyHash P (Str.ofString "__qualname__"), key := Value.str (Str.ofString "__qualname__") 686, val := Value.str (Str.ofString "Profile._of_sequence") 685 }, { hash := PyData.keyHash P (Str.ofString "__doc__"), key := Value.str (Str.ofString "__doc__") 688, val := Value.none }, { hash := PyData.keyHash P (Str.ofString "__annotations__"), key := Value.str (Str.ofString "__annotations__") 690, val := Value.ref 368 }] 5 }
def My.o367 (P : Params) : Obj := { cls := Value.type "classmethod", dict := some 366, data := Data.fields #[Value.ref 365, Value.bool false] }
def My.o368 (P : Params) : Obj := { cls := Value.type "dict", data := Data.dict #[] }
def My.o369 (P : Params) : Obj := { cls := Value.type "tuple", data := Data.seq #[] }
def My.o371 (P : Params) : Obj := { cls := Value.type "tuple", data := Data.seq #[Value.str (Str.ofString "self") 695, Value.str (Str.ofString "other") 696, Value.str (Str.ofString "other_low") 697, Value.str (Str.ofString "other_high") 698] }
def My.o372 (P : Params) : Obj := { cls := Value.type "tuple", data := Data.seq #[] }
def My.o374 (P : Params) : Obj := { cls := Value.type "code", data := Data.fields #[Value.str (Str.ofString "__add__") 692, Value.str (Str.ofString "Profile.__add__") 693, Value.str (Str.ofString "/claim/cut.py") 694, Value.int 219 0, Value.int 2 0, Value.int 0 0, Value.int 0 0, Value.int 3 0, Value.ref 369, Value.bool true, Value.int 181 0, Value.ref 370, Value.none, Value.ref 371, Value.ref 372, Value.ref 373, Value.int 699 0, Value.int 219 0, Value.str (Str.ofString "/claim/cut.py") 700] }
def My.o375 (P : Params) : Obj := { cls := Value.type "function", data := Data.func { name := Str.ofString "__add__", qualname := Str.ofString "Profile.__add__", params := L2.defArgs (L2.inClass (My.hTop 47) 10), body := FuncBody.stmts (L2.defBody (L2.inClass (My.hTop 47) 10)), scope := L2.defScope (L2.inClass (My.hTop 47) 10), globals := 3, closure := [], defaults := Value.none, kwdefaults := Value.none, pyModule := Value.str (Str.ofString "fullqueue.profiles") 554, code := Value.ref 374 } }
def My.o376 (P : Params) : Obj := { cls := Value.type "tuple", data := Data.seq #[] }
def My.o378 (P : Params) : Obj := { cls := Value.type "tuple", data := Data.seq #[Value.str (Str.ofString "self") 705, Value.str (Str.ofString "other") 706, Value.str (Str.ofString "last_start") 707] }
def My.o379 (P : Params) : Obj := { cls := Value.type "tuple", data := Data.seq #[] }
def My.o381 (P : Params) : Obj := { cls := Value.type "code", data := Data.fields #[Value.str (Str.ofString "__mul__") 702, Value.str (Str.ofString "Profile.__mul__") 703, Value.str (Str.ofString "/claim/cut.py") 704, Value.int 226 0, Value.int 2 0, Value.int 0 0, Value.int 0 0, Value.int 3 0, Value.ref 376, Value.bool true, Value.int 181 0, Value.ref 377, Value.none, Value.ref 378, Value.ref 379, Value.ref 380, Value.int 708 0, Value.int 226 0, Value.str (Str.ofString "/claim/cut.py") 709] }
def My.o382 (P : Params) : Obj := { cls := Value.type "function", data := Data.func { name := Str.ofString "__mul__", qualname := Str.ofString "Profile.__mul__", params := L2.defArgs (L2.inClass (My.hTop 47) 11), body := FuncBody.stmts (L2.defBody (L2.inClass (My.hTop 47) 11)), scope := L2.defScope (L2.inClass (My.hTop 47) 11), globals := 3, closure := [], defaults := Value.none, kwdefaults := Value.none, pyModule := Value.str (Str.ofString "fullqueue.profiles") 554, code := Value.ref 381 } }
def My.o383 (P : Params) : Obj := { cls := Value.type "tuple", data := Data.seq #[] }
def My.o385 (P : Params) : Obj := { cls := Value.type "tuple", data := Data.seq #[Value.str (Str.ofString "self") 714, Value.str (Str.ofString "last_start") 715, Value.str (Str.ofString "span") 716] }
def My.o386 (P : Params) : Obj := { cls := Value.type "tuple", data := Data.seq #[] }
def My.o388 (P : Params) : Obj := { cls := Value.type "code", data := Data.fields #[Value.str (Str.ofString "_repeated_fall") 711, Value.str (Str.ofString "Profile._repeated_fall") 712, Value.str (Str.ofString "/claim/cut.py") 713, Value.int 233 0, Value.int 2 0, Value.int 0 0, Value.int 0 0, Value.int 3 0, Value.ref 383, Value.bool true, Value.int 181 0, Value.ref 384, Value.none, Value.ref 385, Value.ref 386, Value.ref 387, Value.int 717 0, Value.int 233 0, Value.str (Str.ofString "/claim/cut.py") 718] }
def My.o389 (P : Params) : Obj := { cls := Value.type "function", data := Data.func { name := Str.ofString "_repeated_fall", qualname := Str.ofString "Profile._repeated_fall", params := L2.defArgs (L2.inClass (My.hTop 47) 12), body := FuncBody.stmts (L2.defBody (L2.inClass (My.hTop 47) 12)), scope := L2.defScope (L2.inClass (My.hTop 47) 12), globals := 3, closure := [], defaults := Value.none, kwdefaults := Value.none, pyModule := Value.str (Str.ofString "fullqueue.profiles") 554, code := Value.ref 388 } }
def My.o390 (P : Params) : Obj := { cls := Value.type "tuple", data := Data.seq #[] }
def My.o392 (P : Params) : Obj := { cls := Value.type "tuple", data := Data.seq #[Value.str (Str.ofString "self") 723, Value.str (Str.ofString "other") 724] }
def My.o393 (P : Params) : Obj := { cls := Value.type "tuple", data := Data.seq #[] }
def My.o395 (P : Params) : Obj := { cls := Value.type "code", data := Data.fields #[Value.str (Str.ofString "__eq__") 720, Value.str (Str.ofString "Profile.__eq__") 721, Value.str (Str.ofString "/claim/cut.py") 722, Value.int 237 0, Value.int 2 0, Value.int 0 0, Value.int 0 0, Value.int 3 0, Value.ref 390, Value.bool true, Value.int 181 0, Value.ref 391, Value.none, Value.ref 392, Value.ref 393, Value.ref 394, Value.int 725 0, Value.int 237 0, Value.str (Str.ofString "/claim/cut.py") 726] }
def My.o396 (P : Params) : Obj := { cls := Value.type "function", data := Data.func { name := Str.ofString "__eq__", qualname := Str.ofString "Profile.__eq__", params := L2.defArgs (L2.inClass (My.hTop 47) 13), body := FuncBody.stmts (L2.defBody (L2.inClass (My.hTop 47) 13)), scope := L2.defScope (L2.inClass (My.hTop 47) 13), globals := 3, closure := [], defaults := Value.none, kwdefaults := Value.none, pyModule := Value.str (Str.ofString "fullqueue.profiles") 554, code := Value.ref 395 } }
def My.o397 (P : Params) : Obj := { cls := Value.type "tuple", data := Data.seq #[Value.str (Str.ofString "_fall") 728, Value.str (Str.ofString "_high") 729, Value.str (Str.ofString "_low") 730, Value.str (Str.ofString "_puts") 731, Value.str (Str.ofString "_takes") 732] }
def My.o398 (P : Params) : Obj := { cls := Value.type "dict", data := Data.dict #[{ hash := PyData.keyHash P (Str.ofString "__module__"), key := Value.str (Str.ofString "__module__") 563, val := Value.str (Str.ofString "fullqueue.profiles") 554 }, { hash := PyData.keyHash P (Str.ofString "__firstlineno__"), key := Value.str (Str.ofString "__firstlineno__") 567, val := Value.int 156 566 }, { hash := PyData.keyHash P (Str.ofString "__init__"), key := Value.str (Str.ofString "__init__") 573, val := Value.ref 290 }, { hash := PyData.keyHash P (Str.ofString "puts"), key := Value.str (Str.ofString "puts") 581, val := Value.ref 298 }, { hash := PyData.keyHash P (Str.ofString "takes"), key := Value.str (Str.ofString "takes") 589, val := Value.ref 306 }, { hash := PyData.keyHash P (Str.ofString "low"), key := Value.str (Str.ofString "low") 597, val := Value.ref 314 }, { hash := PyData.keyHash P (Str.ofString "high"), key := Value.str (Str.ofString "high") 605, val := Value.ref 322 }, { hash := PyData.keyHash P (Str.ofString "fall"), key := Value.str (Str.ofString "fall") 613, val := Value.ref 330 }, { hash := PyData.keyHash P (Str.ofString "offset"), key := Value.str (Str.ofString "offset") 621, val := Value.ref 338 }, { hash := PyData.keyHash P (Str.ofString "of"), key := Value.str (Str.ofString "of") 641, val := Value.ref 347 }, { hash := PyData.keyHash P (Str.ofString "_of_parts"), key := Value.str (Str.ofString "_of_parts") 665, val := Value.ref 357 }, { hash := PyData.keyHash P (Str.ofString "_of_sequence"), key := Value.str (Str.ofString "_of_sequence") 691, val := Value.ref 367 }, { hash := PyData.keyHash P (Str.ofString "__add__"), key := Value.str (Str.ofString "__add__") 701, val := Value.ref 375 }, { hash := PyData.keyHash P (Str.ofString "__mul__"), key := Value.str (Str.ofString "__mul__") 710, val := Value.ref 382 }, { hash := PyData.keyHash P (Str.ofString "_repeated_fall"), key := Value.str (Str.ofString "_repeated_fall") 719, val := Value.ref 389 }, { hash := PyData.keyHash P (Str.ofString "__eq__"), key := Value.str (Str.ofString "__eq__") 727, val := Value.ref 396 }, { hash := PyData.keyHash P (Str.ofString "__static_attributes__"), key := Value.str (Str.ofString "__static_attributes__") 733, val := Value.ref 397 }, { hash := PyData.keyHash P (Str.ofString "__dict__"), key := Value.str (Str.ofString "__dict__") 735, val := Value.ref 400 }, { hash := PyData.keyHash P (Str.ofString "__weakref__"), key := Value.str (Str.ofString "__weakref__") 737, val := Value.ref 401 }, { hash := PyData.keyHash P (Str.ofString "__doc__"), key := Value.str (Str.ofString "__doc__") 738, val := Value.none }, { hash := PyData.keyHash P (Str.ofString "__hash__"), key := Value.str (Str.ofString "__hash__") 739, val := Value.none }] 5 }
def My.o399 (P : Params) : Obj := { cls := Value.type "type", data := Data.cls { name := Str.ofString "Profile", bases := [Value.type "object"], mro := [Value.ref 399, Value.type "object"], ns := 398, qualname := Str.ofString "Profile" }, slots := #[none, none, some (Value.str (Str.ofString "Profile") 556), some (Value.str (Str.ofString "Profile") 564), some (Value.builtin "object.__new__"), some (Value.bool true)] }
def My.o400 (P : Params) : Obj := { cls := Value.type "getset_descriptor", data := Data.fields #[Value.str (Str.ofString "__dict__") 734, Value.ref 399, Value.builtin "function.__dict__", Value.builtin "function.__dict__#set"] }
def My.o401 (P : Params) : Obj := { cls := Value.type "getset_descriptor", data := Data.fields #[Value.str (Str.ofString "__weakref__") 736, Value.ref 399, Value.builtin "ExceptionGroup.__weakref__", Value.none] }
def My.o404 (P : Params) : Obj := { cls := Value.type "tuple", data := Data.seq #[] }
def My.o406 (P : Params) : Obj := { cls := Value.type "tuple", data := Data.seq #[Value.str (Str.ofString "program") 747, Value.str (Str.ofString "capacity") 748, Value.str (Str.ofString "mode") 749, Value.str (Str.ofString "profile") 750] }
def My.o407 (P : Params) : Obj := { cls := Value.type "tuple", data := Data.seq #[] }
def My.o409 (P : Params) : Obj := { cls := Value.type "code", data := Data.fields #[Value.str (Str.ofString "start_lengths") 744, Value.str (Str.ofString "start_lengths") 745, Value.str (Str.ofString "/claim/cut.py") 746, Value.int 240 0, Value.int 3 0, Value.int 0 0, Value.int 0 0, Value.int 3 0, Value.ref 404, Value.bool true, Value.int 181 0, Value.ref 405, Value.none, Value.ref 406, Value.ref 407, Value.ref 408, Value.int 751 0, Value.int 240 0, Value.str (Str.ofString "/claim/cut.py") 752] }
def My.o410 (P : Params) : Obj := { cls := Value.type "function", data := Data.func { name := Str.ofString "start_lengths", qualname := Str.ofString "start_lengths", params := L2.defArgs (My.hTop 49), body := FuncBody.stmts (L2.defBody (My.hTop 49)), scope := L2.defScope (My.hTop 49), globals := 3, closure := [], defaults := Value.none, kwdefaults := Value.none, pyModule := Value.str (Str.ofString "fullqueue.lengths") 742, code := Value.ref 409 } }
def My.o411 (P : Params) : Obj := { cls := Value.type "tuple", data := Data.seq #[] }
def My.o413 (P : Params) : Obj := { cls := Value.type "tuple", data := Data.seq #[Value.str (Str.ofString "profile") 757, Value.str (Str.ofString "capacity") 758, Value.str (Str.ofString "mode") 759, Value.str (Str.ofString "least") 760, Value.str (Str.ofString "greatest") 761] }
def My.o414 (P : Params) : Obj := { cls := Value.type "tuple", data := Data.seq #[] }
def My.o416 (P : Params) : Obj := { cls := Value.type "code", data := Data.fields #[Value.str (Str.ofString "start_bounds") 754, Value.str (Str.ofString "start_bounds") 755, Value.str (Str.ofString "/claim/cut.py") 756, Value.int 245 0, Value.int 3 0, Value.int 0 0, Value.int 0 0, Value.int 3 0, Value.ref 411, Value.bool true, Value.int 181 0, Value.ref 412, Value.none, Value.ref 413, Value.ref 414, Value.ref 415, Value.int 762 0, Value.int 245 0, Value.str (Str.ofString "/claim/cut.py") 763] }
def My.o417 (P : Params) : Obj := { cls := Value.type "function", data := Data.func { name := Str.ofString "start_bounds", qualname := Str.ofString "start_bounds", params := L2.defArgs (My.hTop 50), body := FuncBody.stmts (L2.defBody (My.hTop 50)), scope := L2.defScope (My.hTop 50), globals := 3, closure := [], defaults := Value.none, kwdefaults := Value.none, pyModule := Value.str (Str.ofString "fullqueue.lengths") 742, code := Value.ref 416 } }
def My.o418 (P : Params) : Obj := { cls := Value.type "tuple", data := Data.seq #[] }
def My.o420 (P : Params) : Obj := { cls := Value.type "tuple", data := Data.seq #[Value.str (Str.ofString "_law_script") 770, Value.str (Str.ofString "_law_k") 771, Value.str (Str.ofString "_law_cell") 772, Value.str (Str.ofString "_law_seed") 773] }
def My.o421 (P : Params) : Obj := { cls := Value.type "tuple", data := Data.seq #[] }
def My.o423 (P : Params) : Obj := { cls := Value.type "code", data := Data.fields #[Value.str (Str.ofString "_law_draws") 767, Value.str (Str.ofString "_law_draws") 768, Value.str (Str.ofString "/claim/cut.py") 769, Value.int 252 0, Value.int 2 0, Value.int 0 0, Value.int 0 0, Value.int 3 0, Value.ref 418, Value.bool true, Value.int 181 0, Value.ref 419, Value.none, Value.ref 420, Value.ref 421, Value.ref 422, Value.int 774 0, Value.int 252 0, Value.str (Str.ofString "/claim/cut.py") 775] }
def My.o424 (P : Params) : Obj := { cls := Value.type "function", data := Data.func { name := Str.ofString "_law_draws", qualname := Str.ofString "_law_draws", params := L2.defArgs (My.hTop 52), body := FuncBody.stmts (L2.defBody (My.hTop 52)), scope := L2.defScope (My.hTop 52), globals := 3, closure := [], defaults := Value.none, kwdefaults := Value.none, pyModule := Value.str (Str.ofString "law_fullqueue_k03_programs_recognized") 765, code := Value.ref 423 } }
def My.o425 (P : Params) : Obj := { cls := Value.type "tuple", data := Data.seq #[] }
def My.o427 (P : Params) : Obj := { cls := Value.type "tuple", data := Data.seq #[Value.str (Str.ofString "_law_draws_here") 780, Value.str (Str.ofString "_law_upto") 781, Value.str (Str.ofString "_law_digit") 782] }
def My.o428 (P : Params) : Obj := { cls := Value.type "tuple", data := Data.seq #[] }
def My.o430 (P : Params) : Obj := { cls := Value.type "code", data := Data.fields #[Value.str (Str.ofString "_law_draw") 777, Value.str (Str.ofString "_law_draw") 778, Value.str (Str.ofString "/claim/cut.py") 779, Value.int 260 0, Value.int 2 0, Value.int 0 0, Value.int 0 0, Value.int 3 0, Value.ref 425, Value.bool true, Value.int 181 0, Value.ref 426, Value.none, Value.ref 427, Value.ref 428, Value.ref 429, Value.int 783 0, Value.int 260 0, Value.str (Str.ofString "/claim/cut.py") 784] }
def My.o431 (P : Params) : Obj := { cls := Value.type "function", data := Data.func { name := Str.ofString "_law_draw", qualname := Str.ofString "_law_draw", params := L2.defArgs (My.hTop 53), body := FuncBody.stmts (L2.defBody (My.hTop 53)), scope := L2.defScope (My.hTop 53), globals := 3, closure := [], defaults := Value.none, kwdefaults := Value.none, pyModule := Value.str (Str.ofString "law_fullqueue_k03_programs_recognized") 765, code := Value.ref 430 } }
def My.o432 (P : Params) : Obj := { cls := Value.type "tuple", data := Data.seq #[] }
def My.o434 (P : Params) : Obj := { cls := Value.type "tuple", data := Data.seq #[Value.str (Str.ofString "_law_draws_here") 789] }
def My.o435 (P : Params) : Obj := { cls := Value.type "tuple", data := Data.seq #[] }
def My.o437 (P : Params) : Obj := { cls := Value.type "code", data := Data.fields #[Value.str (Str.ofString "_law_letter") 786, Value.str (Str.ofString "_law_letter") 787, Value.str (Str.ofString "/claim/cut.py") 788, Value.int 267 0, Value.int 1 0, Value.int 0 0, Value.int 0 0, Value.int 3 0, Value.ref 432, Value.bool true, Value.int 181 0, Value.ref 433, Value.none, Value.ref 434, Value.ref 435, Value.ref 436, Value.int 790 0, Value.int 267 0, Value.str (Str.ofString "/claim/cut.py") 791] }
def My.o438 (P : Params) : Obj := { cls := Value.type "function", data := Data.func { name := Str.ofString "_law_letter", qualname := Str.ofString "_law_letter", params := L2.defArgs (My.hTop 54), body := FuncBody.stmts (L2.defBody (My.hTop 54)), scope := L2.defScope (My.hTop 54), globals := 3, closure := [], defaults := Value.none, kwdefaults := Value.none, pyModule := Value.str (Str.ofString "law_fullqueue_k03_programs_recognized") 765, code := Value.ref 437 } }
def My.o439 (P : Params) : Obj := { cls := Value.type "tuple", data := Data.seq #[] }
def My.o441 (P : Params) : Obj := { cls := Value.type "tuple", data := Data.seq #[Value.str (Str.ofString "_law_draws_here") 796, Value.str (Str.ofString "_law_most") 797, Value.str (Str.ofString "_law_some") 798, Value.str (Str.ofString "_law_way") 799, Value.str (Str.ofString "_law_turn") 800] }
def My.o442 (P : Params) : Obj := { cls := Value.type "tuple", data := Data.seq #[] }
def My.o444 (P : Params) : Obj := { cls := Value.type "code", data := Data.fields #[Value.str (Str.ofString "_law_sequence") 793, Value.str (Str.ofString "_law_sequence") 794, Value.str (Str.ofString "/claim/cut.py") 795, Value.int 269 0, Value.int 2 0, Value.int 0 0, Value.int 0 0, Value.int 3 0, Value.ref 439, Value.bool true, Value.int 181 0, Value.ref 440, Value.none, Value.ref 441, Value.ref 442, Value.ref 443, Value.int 801 0, Value.int 269 0, Value.str (Str.ofString "/claim/cut.py") 802] }
def My.o445 (P : Params) : Obj := { cls := Value.type "function", data := Data.func { name := Str.ofString "_law_sequence", qualname := Str.ofString "_law_sequence", params := L2.defArgs (My.hTop 55), body := FuncBody.stmts (L2.defBody (My.hTop 55)), scope := L2.defScope (My.hTop 55), globals := 3, closure := [], defaults := Value.none, kwdefaults := Value.none, pyModule := Value.str (Str.ofString "law_fullqueue_k03_programs_recognized") 765, code := Value.ref 444 } }
def My.o446 (P : Params) : Obj := { cls := Value.type "tuple", data := Data.seq #[] }
def My.o448 (P : Params) : Obj := { cls := Value.type "tuple", data := Data.seq #[Value.str (Str.ofString "_law_draws_here") 807, Value.str (Str.ofString "_law_depth") 808, Value.str (Str.ofString "_law_text") 809, Value.str (Str.ofString "_law_full") 810, Value.str (Str.ofString "_law_turn") 811, Value.str (Str.ofString "_law_stretch") 812, Value.str (Str.ofString "_law_inner") 813, Value.str (Str.ofString "_law_spelled") 814, Value.str (Str.ofString "_law_count") 815] }
def My.o449 (P : Params) : Obj := { cls := Value.type "tuple", data := Data.seq #[] }
def My.o451 (P : Params) : Obj := { cls := Value.type "code", data := Data.fields #[Value.str (Str.ofString "_law_program") 804, Value.str (Str.ofString "_law_program") 805, Value.str (Str.ofString "/claim/cut.py") 806, Value.int 275 0, Value.int 2 0, Value.int 0 0, Value.int 0 0, Value.int 3 0, Value.ref 446, Value.bool true, Value.int 181 0, Value.ref 447, Value.none, Value.ref 448, Value.ref 449, Value.ref 450, Value.int 816 0, Value.int 275 0, Value.str (Str.ofString "/claim/cut.py") 817] }
def My.o452 (P : Params) : Obj := { cls := Value.type "function", data := Data.func { name := Str.ofString "_law_program", qualname := Str.ofString "_law_program", params := L2.defArgs (My.hTop 56), body := FuncBody.stmts (L2.defBody (My.hTop 56)), scope := L2.defScope (My.hTop 56), globals := 3, closure := [], defaults := Value.none, kwdefaults := Value.none, pyModule := Value.str (Str.ofString "law_fullqueue_k03_programs_recognized") 765, code := Value.ref 451 } }
def My.o453 (P : Params) : Obj := { cls := Value.type "tuple", data := Data.seq #[] }
def My.o455 (P : Params) : Obj := { cls := Value.type "tuple", data := Data.seq #[Value.str (Str.ofString "_law_text") 822, Value.str (Str.ofString "_law_at") 823, Value.str (Str.ofString "_law_depth") 824, Value.str (Str.ofString "_law_start") 825, Value.str (Str.ofString "_law_digits") 826] }
def My.o456 (P : Params) : Obj := { cls := Value.type "tuple", data := Data.seq #[] }
def My.o458 (P : Params) : Obj := { cls := Value.type "code", data := Data.fields #[Value.str (Str.ofString "_law_rest") 819, Value.str (Str.ofString "_law_rest") 820, Value.str (Str.ofString "/claim/cut.py") 821, Value.int 286 0, Value.int 3 0, Value.int 0 0, Value.int 0 0, Value.int 3 0, Value.ref 453, Value.bool true, Value.int 181 0, Value.ref 454, Value.none, Value.ref 455, Value.ref 456, Value.ref 457, Value.int 827 0, Value.int 286 0, Value.str (Str.ofString "/claim/cut.py") 828] }
def My.o459 (P : Params) : Obj := { cls := Value.type "function", data := Data.func { name := Str.ofString "_law_rest", qualname := Str.ofString "_law_rest", params := L2.defArgs (My.hTop 57), body := FuncBody.stmts (L2.defBody (My.hTop 57)), scope := L2.defScope (My.hTop 57), globals := 3, closure := [], defaults := Value.none, kwdefaults := Value.none, pyModule := Value.str (Str.ofString "law_fullqueue_k03_programs_recognized") 765, code := Value.ref 458 } }
def My.o460 (P : Params) : Obj := { cls := Value.type "tuple", data := Data.seq #[] }
def My.o462 (P : Params) : Obj := { cls := Value.type "tuple", data := Data.seq #[Value.str (Str.ofString "_law_text") 833] }
def My.o463 (P : Params) : Obj := { cls := Value.type "tuple", data := Data.seq #[] }
def My.o465 (P : Params) : Obj := { cls := Value.type "code", data := Data.fields #[Value.str (Str.ofString "_law_is_program") 830, Value.str (Str.ofString "_law_is_program") 831, Value.str (Str.ofString "/claim/cut.py") 832, Value.int 304 0, Value.int 1 0, Value.int 0 0, Value.int 0 0, Value.int 3 0, Value.ref 460, Value.bool true, Value.int 181 0, Value.ref 461, Value.none, Value.ref 462, Value.ref 463, Value.ref 464, Value.int 834 0, Value.int 304 0, Value.str (Str.ofString "/claim/cut.py") 835] }
def My.o466 (P : Params) : Obj := { cls := Value.type "function", data := Data.func { name := Str.ofString "_law_is_program", qualname := Str.ofString "_law_is_program", params := L2.defArgs (My.hTop 58), body := FuncBody.stmts (L2.defBody (My.hTop 58)), scope := L2.defScope (My.hTop 58), globals := 3, closure := [], defaults := Value.none, kwdefaults := Value.none, pyModule := Value.str (Str.ofString "law_fullqueue_k03_programs_recognized") 765, code := Value.ref 465 } }
def My.o467 (P : Params) : Obj := { cls := Value.type "tuple", data := Data.seq #[] }
def My.o469 (P : Params) : Obj := { cls := Value.type "tuple", data := Data.seq #[Value.str (Str.ofString "_law_function") 840, Value.str (Str.ofString "_law_value") 841] }
def My.o470 (P : Params) : Obj := { cls := Value.type "tuple", data := Data.seq #[] }
def My.o472 (P : Params) : Obj := { cls := Value.type "code", data := Data.fields #[Value.str (Str.ofString "_law_error") 837, Value.str (Str.ofString "_law_error") 838, Value.str (Str.ofString "/claim/cut.py") 839, Value.int 306 0, Value.int 2 0, Value.int 0 0, Value.int 0 0, Value.int 3 0, Value.ref 467, Value.bool true, Value.int 181 0, Value.ref 468, Value.none, Value.ref 469, Value.ref 470, Value.ref 471, Value.int 842 0, Value.int 306 0, Value.str (Str.ofString "/claim/cut.py") 843] }
def My.o473 (P : Params) : Obj := { cls := Value.type "function", data := Data.func { name := Str.ofString "_law_error", qualname := Str.ofString "_law_error", params := L2.defArgs (My.hTop 59), body := FuncBody.stmts (L2.defBody (My.hTop 59)), scope := L2.defScope (My.hTop 59), globals := 3, closure := [], defaults := Value.none, kwdefaults := Value.none, pyModule := Value.str (Str.ofString "law_fullqueue_k03_programs_recognized") 765, code := Value.ref 472 } }
def My.o474 (P : Params) : Obj := { cls := Value.type "tuple", data := Data.seq #[] }
def My.o477 (P : Params) : Obj := { cls := Value.type "code", data := Data.fields #[Value.str (Str.ofString "_law_right") 845, Value.str (Str.ofString "_law_right") 846, Value.str (Str.ofString "/claim/cut.py") 847, Value.int 323 0, Value.int 1 0, Value.int 0 0, Value.int 0 0, Value.int 3 0, Value.ref 474, Value.bool true, Value.int 181 0, Value.ref 475, Value.none, Value.none, Value.none, Value.ref 476, Value.int 848 0, Value.int 323 0, Value.str (Str.ofString "/claim/cut.py") 849] }
def My.o478 (P : Params) : Obj := { cls := Value.type "function", data := Data.func { name := Str.ofString "_law_right", qualname := Str.ofString "_law_right", params := L2.defArgs (My.hTop 60), body := FuncBody.stmts (L2.defBody (My.hTop 60)), scope := L2.defScope (My.hTop 60), globals := 3, closure := [], defaults := Value.none, kwdefaults := Value.none, pyModule := Value.str (Str.ofString "law_fullqueue_k03_programs_recognized") 765, code := Value.ref 477 } }
def My.o479 (P : Params) : Obj := { cls := Value.type "tuple", data := Data.seq #[] }
def My.o482 (P : Params) : Obj := { cls := Value.type "code", data := Data.fields #[Value.str (Str.ofString "law") 851, Value.str (Str.ofString "law") 852, Value.str (Str.ofString "/claim/cut.py") 853, Value.int 329 0, Value.int 1 0, Value.int 0 0, Value.int 0 0, Value.int 3 0, Value.ref 479, Value.bool true, Value.int 181 0, Value.ref 480, Value.none, Value.none, Value.none, Value.ref 481, Value.int 854 0, Value.int 329 0, Value.str (Str.ofString "/claim/cut.py") 855] }
def My.o483 (P : Params) : Obj := { cls := Value.type "function", data := Data.func { name := Str.ofString "law", qualname := Str.ofString "law", params := L2.defArgs (My.hTop 61), body := FuncBody.stmts (L2.defBody (My.hTop 61)), scope := L2.defScope (My.hTop 61), globals := 3, closure := [], defaults := Value.none, kwdefaults := Value.none, pyModule := Value.str (Str.ofString "law_fullqueue_k03_programs_recognized") 765, code := Value.ref 482 } }
noncomputable def My.K (P : Params) : PySem.W.Frag := [(2, My.o2 P), (3, My.o3 P), (15, My.o15 P), (22, My.o22 P), (23, My.o23 P), (24, My.o24 P), (25, My.o25 P), (28, My.o28 P), (35, My.o35 P), (36, My.o36 P), (37, My.o37 P), (40, My.o40 P), (47, My.o47 P), (48, My.o48 P), (49, My.o49 P), (52, My.o52 P), (59, My.o59 P), (60, My.o60 P), (61, My.o61 P), (64, My.o64 P), (71, My.o71 P), (72, My.o72 P), (73, My.o73 P), (76, My.o76 P), (79, My.o79 P), (84, My.o84 P), (85, My.o85 P), (87, My.o87 P), (88, My.o88 P), (90, My.o90 P), (91, My.o91 P), (92, My.o92 P), (93, My.o93 P), (94, My.o94 P), (95, My.o95 P), (98, My.o98 P), (100, My.o100 P), (101, My.o101 P), (103, My.o103 P), (104, My.o104 P), (105, My.o105 P), (107, My.o107 P), (108, My.o108 P), (110, My.o110 P), (111, My.o111 P), (112, My.o112 P), (114, My.o114 P), (115, My.o115 P), (117, My.o117 P), (118, My.o118 P), (119, My.o119 P), (121, My.o121 P), (122, My.o122 P), (124, My.o124 P), (125, My.o125 P), (126, My.o126 P), (128, My.o128 P), (129, My.o129 P), (131, My.o131 P), (132, My.o132 P), (133, My.o133 P), (135, My.o135 P), (136, My.o136 P), (138, My.o138 P), (139, My.o139 P), (140, My.o140 P), (142, My.o142 P), (143, My.o143 P), (145, My.o145 P), (146, My.o146 P), (147, My.o147 P), (149, My.o149 P), (150, My.o150 P), (152, My.o152 P), (153, My.o153 P), (154, My.o154 P), (156, My.o156 P), (157, My.o157 P), (159, My.o159 P), (160, My.o160 P), (161, My.o161 P), (163, My.o163 P), (164, My.o164 P), (166, My.o166 P), (167, My.o167 P), (168, My.o168 P), (170, My.o170 P), (171, My.o171 P), (173, My.o173 P), (174, My.o174 P), (175, My.o175 P), (177, My.o177 P), (178, My.o178 P), (180, My.o180 P), (181, My.o181 P), (182, My.o182 P), (184, My.o184 P), (185, My.o185 P), (187, My.o187 P), (188, My.o188 P), (189, My.o189 P), (191, My.o191 P), (192, My.o192 P), (194, My.o194 P), (195, My.o195 P), (196, My.o196 P), (198, My.o198 P), (199, My.o199 P), (201, My.o201 P), (202, My.o202 P), (203, My.o203 P), (205, My.o205 P), (206, My.o206 P), (208, My.o208 P), (209, My.o209 P), (210, My.o210 P), (212, My.o212 P), (213, My.o213 P), (215, My.o215 P), (216, My.o216 P), (217, My.o217 P), (220, My.o220 P), (221, My.o221 P), (222, My.o222 P), (224, My.o224 P), (225, My.o225 P), (227, My.o227 P), (228, My.o228 P), (229, My.o229 P), (231, My.o231 P), (232, My.o232 P), (234, My.o234 P), (235, My.o235 P), (236, My.o236 P), (238, My.o238 P), (239, My.o239 P), (241, My.o241 P), (242, My.o242 P), (243, My.o243 P), (245, My.o245 P), (246, My.o246 P), (248, My.o248 P), (249, My.o249 P), (250, My.o250 P), (251, My.o251 P), (253, My.o253 P), (254, My.o254 P), (256, My.o256 P), (257, My.o257 P), (258, My.o258 P), (260, My.o260 P), (261, My.o261 P), (263, My.o263 P), (264, My.o264 P), (265, My.o265 P), (267, My.o267 P), (268, My.o268 P), (270, My.o270 P), (271, My.o271 P), (272, My.o272 P), (274, My.o274 P), (275, My.o275 P), (277, My.o277 P), (278, My.o278 P), (286, My.o286 P), (289, My.o289 P), (290, My.o290 P), (291, My.o291 P), (293, My.o293 P), (294, My.o294 P), (296, My.o296 P), (297, My.o297 P), (298, My.o298 P), (299, My.o299 P), (301, My.o301 P), (302, My.o302 P), (304, My.o304 P), (305, My.o305 P), (306, My.o306 P), (307, My.o307 P), (309, My.o309 P), (310, My.o310 P), (312, My.o312 P), (313, My.o313 P), (314, My.o314 P), (315, My.o315 P), (317, My.o317 P), (318, My.o318 P), (320, My.o320 P), (321, My.o321 P), (322, My.o322 P), (323, My.o323 P), (325, My.o325 P), (326, My.o326 P), (328, My.o328 P), (329, My.o329 P), (330, My.o330 P), (331, My.o331 P), (333, My.o333 P), (334, My.o334 P), (336, My.o336 P), (337, My.o337 P), (338, My.o338 P), (339, My.o339 P), (341, My.o341 P), (342, My.o342 P), (344, My.o344 P), (345, My.o345 P), (346, My.o346 P), (347, My.o347 P), (348, My.o348 P), (349, My.o349 P), (351, My.o351 P), (352, My.o352 P), (354, My.o354 P), (355, My.o355 P), (356, My.o356 P), (357, My.o357 P), (358, My.o358 P), (359, My.o359 P), (361, My.o361 P), (362, My.o362 P), (364, My.o364 P), (365, My.o365 P), (366, My.o366 P), (367, My.o367 P), (368, My.o368 P), (369, My.o369 P), (371, My.o371 P), (372, My.o372 P), (374, My.o374 P), (375, My.o375 P), (376, My.o376 P), (378, My.o378 P), (379, My.o379 P), (381, My.o381 P), (382, My.o382 P), (383, My.o383 P), (385, My.o385 P), (386, My.o386 P), (388, My.o388 P), (389, My.o389 P), (390, My.o390 P), (392, My.o392 P), (393, My.o393 P), (395, My.o395 P), (396, My.o396 P), (397, My.o397 P), (398, My.o398 P), (399, My.o399 P), (400, My.o400 P), (401, My.o401 P), (404, My.o404 P), (406, My.o406 P), (407, My.o407 P), (409, My.o409 P), (410, My.o410 P), (411, My.o411 P), (413, My.o413 P), (414, My.o414 P), (416, My.o416 P), (417, My.o417 P), (418, My.o418 P), (420, My.o420 P), (421, My.o421 P), (423, My.o423 P), (424, My.o424 P), (425, My.o425 P), (427, My.o427 P), (428, My.o428 P), (430, My.o430 P), (431, My.o431 P), (432, My.o432 P), (434, My.o434 P), (435, My.o435 P), (437, My.o437 P), (438, My.o438 P), (439, My.o439 P), (441, My.o441 P), (442, My.o442 P), (444, My.o444 P), (445, My.o445 P), (446, My.o446 P), (448, My.o448 P), (449, My.o449 P), (451, My.o451 P), (452, My.o452 P), (453, My.o453 P), (455, My.o455 P), (456, My.o456 P), (458, My.o458 P), (459, My.o459 P), (460, My.o460 P), (462, My.o462 P), (463, My.o463 P), (465, My.o465 P), (466, My.o466 P), (467, My.o467 P), (469, My.o469 P), (470, My.o470 P), (472, My.o472 P), (473, My.o473 P), (474, My.o474 P), (477, My.o477 P), (478, My.o478 P), (479, My.o479 P), (482, My.o482 P), (483, My.o483 P)]
def My.adrs : List Addr := [2, 3, 15, 22, 23, 24, 25, 28, 35, 36, 37, 40, 47, 48, 49, 52, 59, 60, 61, 64, 71, 72, 73, 76, 79, 84, 85, 87, 88, 90, 91, 92, 93, 94, 95, 98, 100, 101, 103, 104, 105, 107, 108, 110, 111, 112, 114, 115, 117, 118, 119, 121, 122, 124, 125, 126, 128, 129, 131, 132, 133, 135, 136, 138, 139, 140, 142, 143, 145, 146, 147, 149, 150, 152, 153, 154, 156, 157, 159, 160, 161, 163, 164, 166, 167, 168, 170, 171, 173, 174, 175, 177, 178, 180, 181, 182, 184, 185, 187, 188, 189, 191, 192, 194, 195, 196, 198, 199, 201, 202, 203, 205, 206, 208, 209, 210, 212, 213, 215, 216, 217, 220, 221, 222, 224, 225, 227, 228, 229, 231, 232, 234, 235, 236, 238, 239, 241, 242, 243, 245, 246, 248, 249, 250, 251, 253, 254, 256, 257, 258, 260, 261, 263, 264, 265, 267, 268, 270, 271, 272, 274, 275, 277, 278, 286, 289, 290, 291, 293, 294, 296, 297, 298, 299, 301, 302, 304, 305, 306, 307, 309, 310, 312, 313, 314, 315, 317, 318, 320, 321, 322, 323, 325, 326, 328, 329, 330, 331, 333, 334, 336, 337, 338, 339, 341, 342, 344, 345, 346, 347, 348, 349, 351, 352, 354, 355, 356, 357, 358, 359, 361, 362, 364, 365, 366, 367, 368, 369, 371, 372, 374, 375, 376, 378, 379, 381, 382, 383, 385, 386, 388, 389, 390, 392, 393, 395, 396, 397, 398, 399, 400, 401, 404, 406, 407, 409, 410, 411, 413, 414, 416, 417, 418, 420, 421, 423, 424, 425, 427, 428, 430, 431, 432, 434, 435, 437, 438, 439, 441, 442, 444, 445, 446, 448, 449, 451, 452, 453, 455, 456, 458, 459, 460, 462, 463, 465, 466, 467, 469, 470, 472, 473, 474, 477, 478, 479, 482, 483]
noncomputable abbrev My.hook : Hook := kHook My.K My.adrs (fun _ => rfl)
abbrev My.hp : Program := PySem.Challenge.rw_fullqueue_k03_programs_recognized.row.prog
abbrev My.hq : Program := view My.hp [61]
def My.nm0 : List PySem.Str := ["QueueError", "InvalidInteger", "InvalidCapacity", "InvalidMode", "InvalidProgram", "LimitExceeded", "DIGITS", "MOST_DIGITS", "is_int", "is_natural", "is_int_between", "read_integer", "TAKE", "STEPS", "MOST_COUNT", "MOST_DEPTH", "MOST_STEPS", "is_program", "is_sequence", "is_count", "check_count", "count_steps", "write_out", "last_puts", "repeat", "parts_of", "read_parts", "end_of_run", "depth_of", "count_part_steps"]
def My.nm1 : List PySem.Str := ["write_parts", "write_part", "last_letters", "last_letters_of_part", "ending", "MODES", "MOST_CAPACITY", "is_capacity", "is_mode", "check_capacity", "check_mode", "Profile", "start_lengths", "start_bounds", "_law_draws", "_law_draw", "_law_letter", "_law_sequence", "_law_program", "_law_rest", "_law_is_program", "_law_error", "_law_right"]
abbrev My.loose : List PySem.Str := My.nm0 ++ (My.nm1)
abbrev My.Xt (s : Shared) : Bool := xlAt My.hq [] s && recOk PySem.Challenge.rw_fullqueue_k03_programs_recognized.row.records s
noncomputable def My.ob (s : SharedT) : List (Option Obj) × Bool := (My.adrs.map (HandSHeadRun.getT s), Nat.ble 343 s.toks)
theorem My.ob_eq (s : SharedT) : My.ob s = (My.hook.obs s.abs, Nat.ble 343 s.abs.toks) := by
  unfold My.ob
  refine Prod.ext ?_ rfl
  show My.adrs.map (HandSHeadRun.getT s) = My.adrs.map s.abs.heap.get?
  exact congrArg (fun f => My.adrs.map f) (funext fun a => HandSHeadRun.getT_eq s a)
set_option maxHeartbeats 0 in
theorem My.run (w : World) (os : OsState) : (HandSHeadRun.endF (HandSHeadRun.stepQ (HandSHeadRun.denQ HandSHeadRun.tabQ) My.hp w) 40000 My.hp w os).map (fun s => (HandSHeadRun.looksF My.hp (boot_heap w.params) s.abs, HandSHeadRun.seenQ My.hq My.loose (importedModules My.hp.main.body) My.Xt s.abs, My.ob s)) = some (true, openGood My.hq My.loose, My.hook.val w, true) := by
  kernel_rfl
theorem My.left : LeftO My.hp My.hq My.loose My.Xt (fun s => (My.hook.obs s, Nat.ble 343 s.toks)) (fun w => (My.hook.val w, true)) 40600 :=
  HandSHeadRun.left_one (M := 40000) (by kernel_rfl) (Nat.ble_eq_true_of_le (by omega)) (fun s => by kernel_rfl) (Nat.ble_eq_true_of_le (by omega)) fun w os => by
    have z := My.run w os
    have eo : My.ob = fun s => (My.hook.obs s.abs, Nat.ble 343 s.abs.toks) := funext My.ob_eq
    rw [eo] at z
    simp only [HandSHeadRun.endQ_eq, HandSHeadRun.seenQ_eq]
    exact z
end


namespace My
open PySem
/-! ### strip of all letters leaves nothing exactly where all signs are letters -/
theorem takeWhile_all {α : Type} {p : α → Bool} : ∀ {l : List α}, l.all p = true → l.takeWhile p = l
  | [], _ => rfl
  | a :: l, h => by
    rw [List.all_cons, Bool.and_eq_true] at h
    rw [List.takeWhile_cons, h.1]
    exact congrArg (a :: ·) (takeWhile_all h.2)
theorem takeWhile_len {α : Type} {p : α → Bool} {l : List α} (h : l.length ≤ (l.takeWhile p).length) : l.all p = true := by
  have e := List.takeWhile_append_dropWhile (p := p) (l := l)
  have hd : (l.dropWhile p).length = 0 := by
    have := congrArg List.length e
    rw [List.length_append] at this
    omega
  have hd' := List.eq_nil_of_length_eq_zero hd
  rw [List.all_eq_true]
  intro x hx
  rw [← e, hd', List.append_nil] at hx
  exact List.all_eq_true.mp List.all_takeWhile x hx
theorem str_ext {x y : Str} (h : x.cps.toList = y.cps.toList) : x = y := by
  obtain ⟨⟨a⟩⟩ := x
  obtain ⟨⟨b⟩⟩ := y
  cases (show a = b from h)
  rfl
theorem strip_none {x : Str} {g : Nat → Bool} (h : x.cps.toList.all g = true) : (Txt.stripBy g true true x).cps.toList = [] := by
  have e := takeWhile_all h
  have lo : stripLo g true x = x.length := by
    show (x.cps.toList.takeWhile g).length = x.cps.size
    rw [e]; simp
  have hi : stripHi g true x x.length = x.length := by
    show x.length - ((x.cps.toList.drop x.cps.size).reverse.takeWhile g).length = x.length
    have : x.cps.toList.drop x.cps.size = [] := by
      rw [List.drop_eq_nil_iff]; simp
    rw [this]; simp
  unfold Txt.stripBy
  split
  · rename_i hs
    unfold stripSame at hs
    rw [lo] at hs
    simp only [Bool.and_eq_true, beq_iff_eq] at hs
    have h0 : x.cps.size = 0 := hs.1
    have : x.cps.toList.length = 0 := by simpa using h0
    exact List.eq_nil_of_length_eq_zero this
  · unfold stripped
    rw [lo, hi]
    show (x.cps.extract x.cps.size x.cps.size).toList = []
    simp
theorem strip_some {x : Str} {g : Nat → Bool} (h : (Txt.stripBy g true true x).cps.toList = []) : x.cps.toList.all g = true := by
  unfold Txt.stripBy at h
  split at h
  · rw [h]; rfl
  · unfold stripped at h
    have h1 : (x.cps.extract (stripLo g true x) (stripHi g true x (stripLo g true x))).toList = [] := h
    have hle : stripHi g true x (stripLo g true x) ≤ stripLo g true x := by
      have h2 : (x.cps.extract (stripLo g true x) (stripHi g true x (stripLo g true x))).size = 0 := by
        rw [← Array.length_toList, h1]; rfl
      rw [Array.size_extract] at h2
      have h3 : stripHi g true x (stripLo g true x) ≤ x.cps.size := Nat.sub_le _ _
      omega
    -- what is left at the end is no more than what stands behind lo
    have hlo : stripLo g true x = (x.cps.toList.takeWhile g).length := rfl
    have hhi : stripHi g true x (stripLo g true x) = x.cps.size - ((x.cps.toList.drop (stripLo g true x)).reverse.takeWhile g).length := rfl
    have hsz : x.cps.toList.length = x.cps.size := Array.length_toList
    have hdl : (x.cps.toList.drop (stripLo g true x)).length = x.cps.size - stripLo g true x := by rw [List.length_drop, hsz]
    have hlo2 : stripLo g true x ≤ x.cps.size := by
      rw [hlo, ← hsz]
      exact (List.takeWhile_sublist _).length_le
    have hle2 : (x.cps.toList.drop (stripLo g true x)).reverse.length ≤ ((x.cps.toList.drop (stripLo g true x)).reverse.takeWhile g).length := by
      rw [List.length_reverse, hdl]
      omega
    have h4 := takeWhile_len hle2
    rw [List.all_reverse] at h4
    -- the rest behind the first stretch holds g everywhere, so the stretch is the whole
    have e := List.takeWhile_append_dropWhile (p := g) (l := x.cps.toList)
    have h5 : x.cps.toList.drop (stripLo g true x) = x.cps.toList.dropWhile g := by
      have : x.cps.toList.drop (x.cps.toList.takeWhile g).length = x.cps.toList.dropWhile g := by
        conv => lhs; rw [← e]
        rw [e]
        have := List.drop_left (l₁ := x.cps.toList.takeWhile g) (l₂ := x.cps.toList.dropWhile g)
        rw [e] at this
        exact this
      exact this
    rw [h5] at h4
    rw [← e, List.all_append, h4]
    have : (x.cps.toList.takeWhile g).all g = true := List.all_takeWhile
    rw [this]; rfl
def letters : Str := "abcdefghijklmnopqrstuvwxyz"
def isLet (c : Nat) : Bool := decide (97 ≤ c) && decide (c ≤ 122)
def lettersOnly (s : Str) : Bool := s.cps.toList.all isLet
theorem letters_has (c : Nat) : letters.cps.contains c = isLet c := by
  have e : letters.cps = #[97,98,99,100,101,102,103,104,105,106,107,108,109,110,111,112,113,114,115,116,117,118,119,120,121,122] := by decide +kernel
  rw [e, Bool.eq_iff_iff, Array.contains_iff_mem]
  unfold isLet
  simp only [List.mem_toArray, List.mem_cons, List.not_mem_nil, or_false, Bool.and_eq_true, decide_eq_true_eq]
  omega
theorem goes_is : letters.cps.contains = isLet := funext letters_has
theorem strip_is (s : Str) : decide (Txt.stripChars s letters = ("" : Str)) = lettersOnly s := by
  unfold Txt.stripChars lettersOnly
  rw [goes_is]
  by_cases h : s.cps.toList.all isLet = true
  · rw [h, decide_eq_true_eq]
    exact str_ext (by rw [strip_none h]; decide +kernel)
  · have h' : s.cps.toList.all isLet = false := by simpa using h
    rw [h', decide_eq_false_iff_not]
    intro e
    apply h
    apply strip_some
    rw [e]
    decide +kernel
end My

/-! ### programs: trees, what they stand for, how their texts are read -/
namespace My
open PySem PySem.NumText
def isStep (c : Nat) : Bool := isLet c || decide (c = 45)
def isDig (c : Nat) : Bool := decide (48 ≤ c) && decide (c ≤ 57)
def digs (n : Nat) : List Nat := (Nat.toDigits 10 n).map Char.toNat
def rcount (ds : List Nat) : Option Nat :=
  if ds.length = 0 ∨ 31 < ds.length then none else if digitsVal ds ≤ 10 ^ 30 ∧ digs (digitsVal ds) = ds then some (digitsVal ds) else none
inductive Parts where
  | nil
  | seq (s : List Nat) (r : Parts)
  | rep (b : Parts) (n : Nat) (r : Parts)
namespace Parts
def den : Parts → List Nat
  | nil => []
  | seq s r => s ++ den r
  | rep b n r => (List.replicate n (den b)).flatten ++ den r
def dep : Parts → Nat
  | nil => 0
  | seq _ r => dep r
  | rep b _ r => max (dep b + 1) (dep r)
def app : Parts → Parts → Parts
  | nil, q => q
  | seq s r, q => seq s (app r q)
  | rep b n r, q => rep b n (app r q)
/-- every sequence holds at least one step, steps alone; every count is at most 10 ** 30 -/
def ok : Parts → Prop
  | nil => True
  | seq s r => s ≠ [] ∧ s.all isStep = true ∧ ok r
  | rep b n r => ok b ∧ n ≤ 10 ^ 30 ∧ ok r
/-- the signs of all sequences together -/
def vol : Parts → Nat
  | nil => 0
  | seq s r => s.length + vol r
  | rep b _ r => vol b + vol r
theorem den_app : ∀ p q : Parts, (app p q).den = p.den ++ q.den
  | nil, q => rfl
  | seq s r, q => by rw [app, den, den, den_app r q, List.append_assoc]
  | rep b n r, q => by rw [app, den, den, den_app r q, List.append_assoc]
theorem dep_app : ∀ p q : Parts, (app p q).dep = max p.dep q.dep
  | nil, q => by rw [app, dep]; omega
  | seq s r, q => by rw [app, dep, dep, dep_app r q]
  | rep b n r, q => by rw [app, dep, dep, dep_app r q]; omega
theorem ok_app : ∀ {p q : Parts}, p.ok → q.ok → (app p q).ok
  | nil, _, _, h => h
  | seq _ _, _, ⟨h1, h2, h3⟩, h => ⟨h1, h2, ok_app h3 h⟩
  | rep _ _ _, _, ⟨h1, h2, h3⟩, h => ⟨h1, h2, ok_app h3 h⟩
theorem vol_app : ∀ p q : Parts, (app p q).vol = p.vol + q.vol
  | nil, q => by rw [app, vol]; omega
  | seq s r, q => by rw [app, vol, vol, vol_app r q]; omega
  | rep b n r, q => by rw [app, vol, vol, vol_app r q]; omega
theorem app_nil : ∀ p : Parts, app p nil = p
  | nil => rfl
  | seq s r => by rw [app, app_nil r]
  | rep b n r => by rw [app, app_nil r]
end Parts
open Parts
theorem len_frep (l : List Nat) (k : Nat) : (List.replicate k l).flatten.length = k * l.length := by
  induction k with
  | zero => simp
  | succ k ih => rw [List.replicate_succ, List.flatten_cons, List.length_append, ih, Nat.succ_mul]; omega
theorem den_le : ∀ {p : Parts}, p.ok → p.den.length ≤ p.vol * 2 ^ (100 * p.dep)
  | .nil, _ => Nat.zero_le _
  | .seq s r, h => by
    have h1 := den_le h.2.2
    rw [den, List.length_append, vol, dep, Nat.add_mul]
    have h2 : s.length * 1 ≤ s.length * 2 ^ (100 * r.dep) := Nat.mul_le_mul_left _ (Nat.one_le_two_pow)
    omega
  | .rep b n r, h => by
    have h1 := den_le h.1
    have h2 := den_le h.2.2
    rw [den, List.length_append, vol, dep, Nat.add_mul, len_frep]
    have e : n ≤ 2 ^ 100 := Nat.le_trans h.2.1 (by decide)
    have g1 : n * b.den.length ≤ b.vol * 2 ^ (100 * max (b.dep + 1) r.dep) := by
      calc n * b.den.length ≤ 2 ^ 100 * (b.vol * 2 ^ (100 * b.dep)) := Nat.mul_le_mul e h1
        _ = b.vol * 2 ^ (100 * (b.dep + 1)) := by rw [Nat.mul_left_comm, ← Nat.pow_add, Nat.mul_add, Nat.mul_one, Nat.add_comm 100]
        _ ≤ _ := Nat.mul_le_mul_left _ (Nat.pow_le_pow_right (by decide) (by omega))
    have g2 : r.vol * 2 ^ (100 * r.dep) ≤ r.vol * 2 ^ (100 * max (b.dep + 1) r.dep) := Nat.mul_le_mul_left _ (Nat.pow_le_pow_right (by decide) (by omega))
    omega
theorem den_lt {p : Parts} (h : p.ok) (hv : p.vol ≤ 100000) {d : Nat} (hd : p.dep ≤ d) : p.den.length < 2 ^ (17 + 100 * d) := by
  refine Nat.lt_of_le_of_lt (den_le h) ?_
  rw [Nat.pow_add]
  exact Nat.mul_lt_mul_of_lt_of_le (Nat.lt_of_le_of_lt hv (by decide)) (Nat.pow_le_pow_right (by decide) (by omega)) (Nat.two_pow_pos _)
/-- one turn of the reader: the open lists (the innermost first), the list at hand, what is left -/
def stp (os : List Parts) (ps : Parts) (c : Nat) (r : List Nat) : Option (List Parts × Parts × List Nat) :=
  if c = 40 then (if os.length + 1 ≤ 20 then some (ps :: os, nil, r) else none)
  else if c = 41 then
    match rcount (r.takeWhile isDig), os with
    | some n, o :: os' => if os'.length ≤ 20 then some (os', app o (rep ps n nil), r.dropWhile isDig) else none
    | _, _ => none
  else if isStep c then (if os.length ≤ 20 then some (os, app ps (seq ((c :: r).takeWhile isStep) nil), (c :: r).dropWhile isStep) else none) else none
def rpF : Nat → List Parts → Parts → List Nat → Option Parts
  | 0, _, _, _ => none
  | _ + 1, os, ps, [] => if os.length = 0 then some ps else none
  | k + 1, os, ps, c :: r => match stp os ps c r with
    | none => none
    | some (os', ps', r') => rpF k os' ps' r'
def rpt (t : List Nat) : Option Parts := rpF (t.length + 1) [] nil t
theorem len_dropWhile (p : Nat → Bool) : ∀ l : List Nat, (l.dropWhile p).length ≤ l.length
  | [] => Nat.le_refl _
  | a :: l => by
    rw [List.dropWhile_cons]
    have := len_dropWhile p l
    split
    · rw [List.length_cons]; omega
    · exact Nat.le_refl _
theorem stp_less {os ps c r os' ps' r'} (h : stp os ps c r = some (os', ps', r')) : r'.length ≤ r.length := by
  unfold stp at h
  have d1 := len_dropWhile isDig r
  have d2 := len_dropWhile isStep r
  split at h
  · split at h
    · simp only [Option.some.injEq, Prod.mk.injEq] at h; rw [← h.2.2]; exact Nat.le_refl _
    · cases h
  · split at h
    · split at h
      · split at h
        · simp only [Option.some.injEq, Prod.mk.injEq] at h; rw [← h.2.2]; exact d1
        · cases h
      · cases h
    · split at h
      · rename_i hc
        split at h
        · simp only [Option.some.injEq, Prod.mk.injEq] at h; rw [← h.2.2, List.dropWhile_cons, if_pos hc]; exact d2
        · cases h
      · cases h
/-- how deep what is read may be -/
def deeps : List Parts → Prop
  | [] => True
  | o :: os => o.dep + os.length ≤ 20 ∧ o.ok ∧ deeps os
theorem all_takeWhile' (p : Nat → Bool) (l : List Nat) : (l.takeWhile p).all p = true := List.all_takeWhile
theorem rcount_le {ds : List Nat} {n : Nat} (h : rcount ds = some n) : n ≤ 10 ^ 30 := by
  unfold rcount at h
  split at h
  · cases h
  · split at h
    · rename_i h2
      simp only [Option.some.injEq] at h
      omega
    · cases h
theorem stp_deep {os ps c r os' ps' r'} (h : stp os ps c r = some (os', ps', r')) (h1 : deeps os) (h2 : ps.dep + os.length ≤ 20) (h3 : ps.ok) : deeps os' ∧ ps'.dep + os'.length ≤ 20 ∧ ps'.ok := by
  unfold stp at h
  split at h
  · split at h
    · rename_i h20
      simp only [Option.some.injEq, Prod.mk.injEq] at h
      obtain ⟨rfl, rfl, _⟩ := h
      refine ⟨⟨h2, h3, h1⟩, ?_, trivial⟩
      rw [dep, List.length_cons]; omega
    · cases h
  · split at h
    · split at h
      · rename_i n o os2 hn
        split at h
        · simp only [Option.some.injEq, Prod.mk.injEq] at h
          obtain ⟨rfl, rfl, _⟩ := h
          obtain ⟨g1, g2, g3⟩ := h1
          rw [List.length_cons] at h2
          refine ⟨g3, ?_, ok_app g2 ⟨h3, rcount_le hn, trivial⟩⟩
          rw [dep_app, dep, dep]; omega
        · cases h
      · cases h
    · split at h
      · rename_i hc
        split at h
        · simp only [Option.some.injEq, Prod.mk.injEq] at h
          obtain ⟨rfl, rfl, _⟩ := h
          refine ⟨h1, ?_, ok_app h3 ⟨?_, all_takeWhile' _ _, trivial⟩⟩
          · rw [dep_app, dep, dep]; omega
          · rw [List.takeWhile_cons, if_pos hc]; simp
        · cases h
      · cases h
theorem rpF_deep : ∀ {k os ps r q}, rpF k os ps r = some q → deeps os → ps.dep + os.length ≤ 20 → ps.ok → q.dep ≤ 20 ∧ q.ok
  | 0, _, _, _, _, h, _, _, _ => by cases h
  | _ + 1, os, ps, [], q, h, _, h2, h3 => by
    rw [rpF] at h
    split at h
    · cases h; exact ⟨by omega, h3⟩
    · cases h
  | k + 1, os, ps, c :: r, q, h, h1, h2, h3 => by
    rw [rpF] at h
    split at h
    · cases h
    · rename_i os' ps' r' e
      obtain ⟨g1, g2, g3⟩ := stp_deep e h1 h2 h3
      exact rpF_deep h g1 g2 g3
theorem rpt_deep {t : List Nat} {q : Parts} (h : rpt t = some q) : q.dep ≤ 20 ∧ q.ok := rpF_deep h trivial (by simp [dep]) trivial
/-! ### numbers in digits -/
theorem digs_dig (n : Nat) : (digs n).all isDig = true := by
  rw [List.all_eq_true]
  intro c hc
  obtain ⟨ch, hch, e⟩ := List.mem_map.mp hc
  have r := PyProof.Rows.digit_range (Nat.isDigit_of_mem_toDigits (by decide) (by decide) hch)
  rw [← e]
  simp only [isDig, Bool.and_eq_true, decide_eq_true_eq]
  exact r
theorem digs_ne (n : Nat) : digs n ≠ [] := by
  intro e
  have h := toDigits_len_ge 10 n
  rw [List.map_eq_nil_iff.mp e] at h
  exact absurd h (by decide)
theorem digs_val (n : Nat) : digitsVal (digs n) = n := PySem.W.KIN.val_back n
theorem digs_lt {n k : Nat} (hk : 0 < k) (h : n < 10 ^ k) : (digs n).length ≤ k := by
  unfold digs
  rw [List.length_map]
  exact (Nat.length_toDigits_le_iff (by decide) hk).mpr h
theorem rcount_digs {n : Nat} (h : n ≤ 10 ^ 30) : rcount (digs n) = some n := by
  unfold rcount
  have h1 : (digs n).length ≤ 31 := digs_lt (by decide) (Nat.lt_of_le_of_lt h (by decide))
  have h0 : (digs n).length ≠ 0 := fun e => digs_ne n (List.eq_nil_of_length_eq_zero e)
  rw [if_neg (by omega), digs_val, if_pos ⟨h, rfl⟩]
/-! ### texts by their grammar -/
inductive Pr : Nat → List Nat → List Nat → Prop where
  | nil (d : Nat) : Pr d [] []
  | step {d c t f} : isStep c = true → Pr d t f → Pr d (c :: t) (c :: f)
  | rep {d n ti fi t f} : Pr d ti fi → n ≤ 10 ^ 30 → Pr (d + 1) t f → Pr (d + 1) (40 :: (ti ++ 41 :: (digs n ++ t))) ((List.replicate n fi).flatten ++ f)
theorem Pr.mono {d t f} (h : Pr d t f) : ∀ {e}, d ≤ e → Pr e t f := by
  induction h with
  | nil d => exact fun _ => .nil _
  | step hc _ ih => exact fun he => .step hc (ih he)
  | rep h1 hn h2 ih1 ih2 =>
    intro e he
    cases e with
    | zero => omega
    | succ e => exact .rep (ih1 (by omega)) hn (ih2 (by omega))
theorem Pr.app {d t f} (h : Pr d t f) {t' f'} (h' : Pr d t' f') : Pr d (t ++ t') (f ++ f') := by
  induction h with
  | nil d => exact h'
  | step hc _ ih => exact .step hc (ih h')
  | rep h1 hn h2 ih1 ih2 =>
    have := Pr.rep h1 hn (ih2 h')
    rw [← List.append_assoc] at this
    simpa [List.append_assoc] using this
theorem Pr.one {d n ti fi} (h : Pr d ti fi) (hn : n ≤ 10 ^ 30) : Pr (d + 1) (40 :: (ti ++ 41 :: digs n)) (List.replicate n fi).flatten := by
  have := Pr.rep h hn (.nil (d + 1))
  simpa using this
theorem Pr.steps {d : Nat} : ∀ {s : List Nat}, s.all isStep = true → Pr d s s
  | [], _ => .nil d
  | c :: s, h => by
    rw [List.all_cons, Bool.and_eq_true] at h
    exact .step h.1 (Pr.steps h.2)
theorem Pr.fsteps {d t f} (h : Pr d t f) : f.all isStep = true := by
  induction h with
  | nil d => rfl
  | step hc _ ih => rw [List.all_cons, hc, ih]; rfl
  | rep h1 hn h2 ih1 ih2 =>
    rw [List.all_append, ih2, Bool.and_true, List.all_eq_true]
    intro c hc
    obtain ⟨l, hl, hcl⟩ := List.mem_flatten.mp hc
    rw [(List.mem_replicate.mp hl).2] at hcl
    exact List.all_eq_true.mp ih1 c hcl
theorem Pr.run {d t f} (h : Pr d t f) : ∃ g, f = t.takeWhile isStep ++ g ∧ Pr d (t.dropWhile isStep) g := by
  induction h with
  | nil d => exact ⟨[], rfl, .nil d⟩
  | step hc _ ih =>
    obtain ⟨g, e, h⟩ := ih
    rw [List.takeWhile_cons, if_pos hc, List.dropWhile_cons, if_pos hc]
    exact ⟨g, by rw [List.cons_append, ← e], h⟩
  | @rep d n ti fi t f h1 hn h2 ih1 ih2 =>
    have e : isStep 40 = false := by decide
    rw [List.takeWhile_cons, if_neg (by rw [e]; decide), List.dropWhile_cons, if_neg (by rw [e]; decide)]
    exact ⟨_, rfl, .rep h1 hn h2⟩
theorem Pr.head {d t f} (h : Pr d t f) : t = [] ∨ (∃ c r, t = c :: r ∧ isStep c = true) ∨ ∃ r, t = 40 :: r := by
  cases h with
  | nil d => exact .inl rfl
  | step hc _ => exact .inr (.inl ⟨_, _, rfl, hc⟩)
  | rep _ _ _ => exact .inr (.inr ⟨_, rfl⟩)
theorem takeWhile_stop {p : Nat → Bool} {l r : List Nat} (hl : l.all p = true) (hr : r = [] ∨ ∃ c r', r = c :: r' ∧ p c = false) : (l ++ r).takeWhile p = l ∧ (l ++ r).dropWhile p = r := by
  induction l with
  | nil =>
    rcases hr with rfl | ⟨c, r', rfl, hc⟩
    · exact ⟨rfl, rfl⟩
    · rw [List.nil_append, List.takeWhile_cons, if_neg (by rw [hc]; decide), List.dropWhile_cons, if_neg (by rw [hc]; decide)]
      exact ⟨rfl, rfl⟩
  | cons a l ih =>
    rw [List.all_cons, Bool.and_eq_true] at hl
    obtain ⟨h1, h2⟩ := ih hl.2
    rw [List.cons_append, List.takeWhile_cons, if_pos hl.1, List.dropWhile_cons, if_pos hl.1, h1, h2]
    exact ⟨rfl, rfl⟩
theorem takeWhile_app {p : Nat → Bool} {r : List Nat} (hr : r = [] ∨ ∃ c r', r = c :: r' ∧ p c = false) : ∀ l : List Nat, (l ++ r).takeWhile p = l.takeWhile p ∧ (l ++ r).dropWhile p = l.dropWhile p ++ r
  | [] => by
    rcases hr with rfl | ⟨c, r', rfl, hc⟩
    · exact ⟨rfl, rfl⟩
    · rw [List.nil_append, List.takeWhile_cons, if_neg (by rw [hc]; decide), List.dropWhile_cons, if_neg (by rw [hc]; decide)]
      exact ⟨rfl, rfl⟩
  | a :: l => by
    obtain ⟨h1, h2⟩ := takeWhile_app hr l
    rw [List.cons_append, List.takeWhile_cons, List.dropWhile_cons, List.takeWhile_cons, List.dropWhile_cons]
    split
    · rw [h1, h2]; exact ⟨rfl, rfl⟩
    · exact ⟨rfl, rfl⟩
theorem dropWhile_len {p : Nat → Bool} {c : Nat} {l : List Nat} (h : p c = true) : ((c :: l).dropWhile p).length < (c :: l).length := by
  rw [List.dropWhile_cons, if_pos h, List.length_cons]
  have := len_dropWhile p l
  omega
theorem rp_of : ∀ (m : Nat) {d t f}, t.length ≤ m → Pr d t f → ∀ (os : List Parts) (ps : Parts) (rest : List Nat) (k : Nat), os.length + d ≤ 20 → (rest = [] ∨ ∃ r, rest = 41 :: r) → (t ++ rest).length < k →
    ∃ ps' k', rest.length < k' ∧ rpF k os ps (t ++ rest) = rpF k' os ps' rest ∧ ps'.den = ps.den ++ f ∧ ps'.dep ≤ max ps.dep d ∧ ps'.vol ≤ ps.vol + t.length
  | m, d, t, f, hm, h, os, ps, rest, k, hd, hr, hk => by
    rcases h.head with e | ⟨c, r, e, hc⟩ | ⟨r, e⟩
    · subst e
      cases h
      exact ⟨ps, k, hk, rfl, by rw [List.append_nil], by omega, by omega⟩
    · cases m with
      | zero => rw [e, List.length_cons] at hm; omega
      | succ m =>
        obtain ⟨g, ef, h'⟩ := h.run
        have hrs : rest = [] ∨ ∃ c r', rest = c :: r' ∧ isStep c = false := by
          rcases hr with hr | ⟨r', hr⟩
          · exact .inl hr
          · exact .inr ⟨41, r', hr, by decide⟩
        obtain ⟨e1, e2⟩ := takeWhile_app hrs t
        have hlt := dropWhile_len (p := isStep) (c := c) (l := r) hc
        rw [← e] at hlt
        have hsum : (t.takeWhile isStep).length + (t.dropWhile isStep).length = t.length := by
          rw [← List.length_append, List.takeWhile_append_dropWhile]
        cases k with
        | zero => omega
        | succ k =>
          have e40 : c ≠ 40 := fun z => by rw [z] at hc; revert hc; decide
          have e41 : c ≠ 41 := fun z => by rw [z] at hc; revert hc; decide
          have es : rpF (k + 1) os ps (t ++ rest) = rpF k os (app ps (seq (t.takeWhile isStep) nil)) (t.dropWhile isStep ++ rest) := by
            rw [← e1, ← e2]
            conv => lhs; rw [e, List.cons_append, rpF]
            unfold stp
            rw [if_neg e40, if_neg e41, if_pos hc, if_pos (by omega)]
            rw [e, List.cons_append]
          rw [List.length_append] at hk
          obtain ⟨ps', k', g1, g2, g3, g4, g5⟩ := rp_of m (by omega) h' os (app ps (seq (t.takeWhile isStep) nil)) rest k hd hr (by rw [List.length_append]; omega)
          refine ⟨ps', k', g1, es.trans g2, ?_, ?_, ?_⟩
          · rw [g3, den_app, den, den, ef, List.append_nil, List.append_assoc]
          · rw [dep_app, dep, dep] at g4; omega
          · rw [vol_app, vol, vol] at g5; omega
    · cases m with
      | zero => rw [e, List.length_cons] at hm; omega
      | succ m =>
        generalize ht : t = t0 at h
        cases h with
        | nil => subst ht; cases e
        | @step d c t1 f1 hc h1 =>
          rw [ht] at e
          injection e with e1 e2
          rw [e1] at hc
          exact absurd hc (by decide)
        | @rep d n ti fi t2 f2 h1 hn h2 =>
          subst ht
          clear e r
          rw [List.length_cons, List.length_append, List.length_cons, List.length_append] at hm
          have hk2 : (40 :: (ti ++ 41 :: (digs n ++ (t2 ++ rest)))).length < k := by
            have : 40 :: (ti ++ 41 :: (digs n ++ t2)) ++ rest = 40 :: (ti ++ 41 :: (digs n ++ (t2 ++ rest))) := by simp [List.append_assoc]
            rw [← this]; exact hk
          have eq0 : 40 :: (ti ++ 41 :: (digs n ++ t2)) ++ rest = 40 :: (ti ++ 41 :: (digs n ++ (t2 ++ rest))) := by simp [List.append_assoc]
          rw [eq0]
          cases k with
          | zero => omega
          | succ k =>
            rw [List.length_cons] at hk2
            have es1 : rpF (k + 1) os ps (40 :: (ti ++ 41 :: (digs n ++ (t2 ++ rest)))) = rpF k (ps :: os) nil (ti ++ 41 :: (digs n ++ (t2 ++ rest))) := by
              rw [rpF]
              unfold stp
              rw [if_pos rfl, if_pos (by omega)]
            obtain ⟨pi, k1, g1, g2, g3, g4, g5⟩ := rp_of m (by omega) h1 (ps :: os) nil (41 :: (digs n ++ (t2 ++ rest))) k (by rw [List.length_cons]; omega) (.inr ⟨_, rfl⟩) (by omega)
            cases k1 with
            | zero => omega
            | succ k1 =>
              have hnd : t2 ++ rest = [] ∨ ∃ c r', t2 ++ rest = c :: r' ∧ isDig c = false := by
                rcases h2.head with e | ⟨c, r, e, hc⟩ | ⟨r, e⟩
                · subst e
                  rcases hr with hr | ⟨r', hr⟩
                  · exact .inl (by rw [hr]; rfl)
                  · exact .inr ⟨41, r', by rw [hr]; rfl, by decide⟩
                · refine .inr ⟨c, r ++ rest, by rw [e]; rfl, ?_⟩
                  simp only [isStep, isLet, Bool.or_eq_true, Bool.and_eq_true, decide_eq_true_eq] at hc
                  simp only [isDig, Bool.and_eq_false_iff, decide_eq_false_iff_not]
                  omega
                · exact .inr ⟨40, r ++ rest, by rw [e]; rfl, by decide⟩
              obtain ⟨e1, e2⟩ := takeWhile_stop (digs_dig n) hnd
              have es2 : rpF (k1 + 1) (ps :: os) pi (41 :: (digs n ++ (t2 ++ rest))) = rpF k1 os (app ps (Parts.rep pi n nil)) (t2 ++ rest) := by
                rw [rpF]
                unfold stp
                rw [if_neg (by decide), if_pos rfl, e1, e2, rcount_digs hn]
                simp only
                rw [if_pos (by omega)]
              rw [List.length_cons, List.length_append] at g1
              obtain ⟨ps', k', f1, f2, f3, f4, f5⟩ := rp_of m (by omega) h2 os (app ps (Parts.rep pi n nil)) rest k1 hd hr (by omega)
              refine ⟨ps', k', f1, es1.trans (g2.trans (es2.trans f2)), ?_, ?_, ?_⟩
              · rw [f3, den_app, den, den, g3, den, List.nil_append, List.append_nil, List.append_assoc]
              · rw [dep_app, dep, dep] at f4; rw [dep] at g4; omega
              · rw [vol_app, vol, vol] at f5; rw [vol] at g5
                rw [List.length_cons, List.length_append, List.length_cons, List.length_append]
                omega
theorem rpt_of {d t f} (h : Pr d t f) (hd : d ≤ 20) : ∃ ps, rpt t = some ps ∧ ps.den = f ∧ ps.dep ≤ d ∧ ps.vol ≤ t.length ∧ ps.ok := by
  obtain ⟨ps, k, h1, h2, h3, h4, h5⟩ := rp_of t.length (Nat.le_refl _) h [] nil [] (t.length + 1) (by simpa using hd) (.inl rfl) (by simp)
  rw [List.append_nil] at h2
  cases k with
  | zero => cases h1
  | succ k =>
    have e : rpt t = some ps := by
      unfold rpt
      rw [h2, rpF]
      rfl
    refine ⟨ps, e, h3, by rw [dep] at h4; omega, by rw [vol] at h5; omega, (rpt_deep e).2⟩
end My

namespace My
open PySem L2 TL
/-! ### words -/
theorem exm_self {K : PySem.W.Frag} {S : Addr} (h1 : PySem.W.subIn K (.ref S) (.type "BaseException") = some true) (h2 : PySem.W.isClsIn K S = true) (h3 : PySem.W.typeIn K (.ref S) = some (.type "type")) (h4 : PySem.W.subIn K (.ref S) (.ref S) = some true) :
    PySem.W.exmOne K (.ref S) (.ref S) = some true := by
  have e1 : (PySem.W.subIn K (.ref S) (.type "BaseException") == some true) = true := by rw [h1] <;> rfl
  have e2 : ((PySem.W.clsIn K S).isSome && PySem.W.typeIn K (.ref S) == some (.type "type")) = true := by
    have h2' : (PySem.W.clsIn K S).isSome = true := h2
    rw [h2', h3] <;> rfl
  show (if (PySem.W.subIn K (.ref S) (.type "BaseException") == some true) = true then (if ((PySem.W.clsIn K S).isSome && PySem.W.typeIn K (.ref S) == some (.type "type")) = true then PySem.W.subIn K (.ref S) (.ref S) else none) else none) = some true
  rw [if_pos e1, if_pos e2]
  exact h4
/-- no exception is wished: none comes -/
theorem passN {X : Cx} : Passes (L2.CX X.prog X.w) X E0 := fun _ _ _ _ _ _ _ h => by
  obtain ⟨_, _, _, _, _, _, _, _, _, _, _, _, _, z⟩ := h
theorem cx_K {CX : CXT} {P : Program} {w : World} {K : PySem.W.Frag} {mg : Str → Option Value} {base : Heap} {N : List Str} {qual : Str} {scope : Scope} {f : Addr} {cd : Value} {A : Around} {outer : List Env} {s : Shared} {H : Hp} {E : XK} : (cxOf CX P w K mg base N qual scope f cd A outer s H E).K = K := rfl
theorem nox_K {X : Cx} : X.nox.K = X.K := rfl
theorem ite_t {α : Sort _} {a b : α} : (if true = true then a else b) = a := if_pos rfl
theorem ite_f {α : Sort _} {a b : α} : (if false = true then a else b) = b := if_neg Bool.false_ne_true
/-- a value of a known kind -/
inductive Kd (K : PySem.W.Frag) (H : Hp) : V → Prop where
  | non : Kd K H .non
  | bl (b : Bool) : Kd K H (.bl b)
  | int (i : Int) : Kd K H (.int i)
  | str (s : Str) (h : s.length ≤ 100000) : Kd K H (.str s)
  | ref {a : Addr} {n : String} (h : TyX K H (.ref a) (.type n)) (hn : n = "list" ∨ n = "tuple" ∨ n = "dict") : Kd K H (.ref a)
def tInt : V → Bool | .int _ => true | .bl _ => true | _ => false
def tBool : V → Bool | .bl _ => true | _ => false
def tStr : V → Bool | .str _ => true | _ => false
theorem isi_of {K : PySem.W.Frag} {H : Hp} {x : V} {T : String} {b : Bool} {Q : VK} (z : ∃ t, TyX K H x t ∧ PySem.W.kitOne K t (.type T) = some b) (q : Q (.bl b) H) : rIsi K [x, .ty T] H Q := by
  obtain ⟨t, h1, h2⟩ := z
  exact ⟨x, .ty T, t, _, _, rfl, .ty T, h1, h2, q⟩
theorem isi_int {K : PySem.W.Frag} {H : Hp} {x : V} {Q : VK} (k : Kd K H x) (q : Q (.bl (tInt x)) H) : rIsi K [x, .ty "int"] H Q := by
  refine isi_of ?_ q
  cases k with
  | non => exact ⟨_, .base .non, show _ = some false from kit_ty (by decide +kernel)⟩
  | bl b => exact ⟨_, .base (.bl b), show _ = some true from kit_ty (by decide +kernel)⟩
  | int b => exact ⟨_, .base (.int b), show _ = some true from kit_ty (by decide +kernel)⟩
  | str b => exact ⟨_, .base (.str b), show _ = some false from kit_ty (by decide +kernel)⟩
  | ref h hn => rcases hn with rfl | rfl | rfl <;> exact ⟨_, h, show _ = some false from kit_ty (by decide +kernel)⟩
theorem isi_bool {K : PySem.W.Frag} {H : Hp} {x : V} {Q : VK} (k : Kd K H x) (q : Q (.bl (tBool x)) H) : rIsi K [x, .ty "bool"] H Q := by
  refine isi_of ?_ q
  cases k with
  | non => exact ⟨_, .base .non, show _ = some false from kit_ty (by decide +kernel)⟩
  | bl b => exact ⟨_, .base (.bl b), show _ = some true from kit_ty (by decide +kernel)⟩
  | int b => exact ⟨_, .base (.int b), show _ = some false from kit_ty (by decide +kernel)⟩
  | str b => exact ⟨_, .base (.str b), show _ = some false from kit_ty (by decide +kernel)⟩
  | ref h hn => rcases hn with rfl | rfl | rfl <;> exact ⟨_, h, show _ = some false from kit_ty (by decide +kernel)⟩
theorem isi_str {K : PySem.W.Frag} {H : Hp} {x : V} {Q : VK} (k : Kd K H x) (q : Q (.bl (tStr x)) H) : rIsi K [x, .ty "str"] H Q := by
  refine isi_of ?_ q
  cases k with
  | non => exact ⟨_, .base .non, show _ = some false from kit_ty (by decide +kernel)⟩
  | bl b => exact ⟨_, .base (.bl b), show _ = some false from kit_ty (by decide +kernel)⟩
  | int b => exact ⟨_, .base (.int b), show _ = some false from kit_ty (by decide +kernel)⟩
  | str b => exact ⟨_, .base (.str b), show _ = some true from kit_ty (by decide +kernel)⟩
  | ref h hn => rcases hn with rfl | rfl | rfl <;> exact ⟨_, h, show _ = some false from kit_ty (by decide +kernel)⟩

/-! ### flat lists compared -/
def flatD : V → PyData
  | .bl b => .bool b
  | .int i => .int i
  | .str s => .str s
  | _ => .none
def okF : V → Bool
  | .str s => PyData.strOk s
  | .non => true
  | .bl _ => true
  | .int _ => true
  | _ => false
theorem dp_flat {K : PySem.W.Frag} {H : Hp} {v : V} (h : okF v = true) : Dp K H v (flatD v) := by
  cases v with
  | non => exact .non
  | bl b => exact .bl b
  | int i => exact .int i
  | str s => exact .str s
  | _ => cases h
theorem dp_all {K : PySem.W.Frag} {H : Hp} : ∀ {xs : List V}, xs.all okF = true → DpAll K H xs (xs.map flatD)
  | [], _ => .nil
  | x :: xs, h => by
    rw [List.all_cons, Bool.and_eq_true] at h
    exact .cons (dp_flat h.1) (dp_all h.2)
theorem dp_list {K : PySem.W.Frag} {H : Hp} {a : Addr} {xs : List V} (h : SqL K H a xs) (hx : xs.all okF = true) : Dp K H (.ref a) (.list (xs.map flatD)) := .lst h (dp_all hx)
theorem lay_flat : ∀ {xs : List V}, xs.all okF = true → PyData.canLayAll0 (xs.map flatD) = true ∧ PyData.depthAll (xs.map flatD) = 0
  | [], _ => ⟨by simp [PyData.canLayAll0], by simp [PyData.depthAll]⟩
  | x :: xs, h => by
    rw [List.all_cons, Bool.and_eq_true] at h
    obtain ⟨h1, h2⟩ := lay_flat h.2
    rw [List.map_cons]
    have e1 : PyData.canLay0 (flatD x) = true ∧ PyData.depth (flatD x) = 0 := by
      cases x with
      | str s => exact ⟨by rw [flatD, PyData.canLay0]; exact h.1, by simp [flatD, PyData.depth]⟩
      | _ => first | exact ⟨by simp [flatD, PyData.canLay0], by simp [flatD, PyData.depth]⟩ | cases h.1
    exact ⟨by rw [PyData.canLayAll0, e1.1, h1]; rfl, by rw [PyData.depthAll, e1.2, h2]; rfl⟩
theorem shaped_flat {xs : List V} (h : xs.all okF = true) : SeqAt.shaped (.list (xs.map flatD)) = true := by
  obtain ⟨h1, h2⟩ := lay_flat h
  unfold SeqAt.shaped
  rw [PyData.canLay0, h1, PyData.depth, h2]
  rfl
def eqL (xs ys : List V) : Bool := PyData.eqvAll (xs.map flatD) (ys.map flatD)
theorem ne_lists {K : PySem.W.Frag} {H : Hp} {a b : Addr} {xs ys : List V} {Q : VK} (ha : SqL K H a xs) (hb : SqL K H b ys) (hx : xs.all okF = true) (hy : ys.all okF = true) (q : Q (.bl (!eqL xs ys)) H) : rNeD K (.ref a) (.ref b) H Q :=
  ⟨_, _, dp_list ha hx, dp_list hb hy, shaped_flat hx, shaped_flat hy, by
    show Q (.bl (!PyData.eqv (.list (xs.map flatD)) (.list (ys.map flatD)))) H
    rw [PyData.eqv]
    exact q⟩
theorem eq_lists {K : PySem.W.Frag} {H : Hp} {a b : Addr} {xs ys : List V} {Q : VK} (ha : SqL K H a xs) (hb : SqL K H b ys) (hx : xs.all okF = true) (hy : ys.all okF = true) (q : Q (.bl (eqL xs ys)) H) : rEqD K (.ref a) (.ref b) H Q :=
  ⟨_, _, dp_list ha hx, dp_list hb hy, shaped_flat hx, shaped_flat hy, by
    show Q (.bl (PyData.eqv (.list (xs.map flatD)) (.list (ys.map flatD)))) H
    rw [PyData.eqv]
    exact q⟩
theorem eqL_bools : ∀ (bs cs : List Bool), eqL (bs.map V.bl) (cs.map V.bl) = decide (bs = cs)
  | [], [] => by simp [eqL, PyData.eqvAll]
  | [], c :: cs => by simp [eqL, PyData.eqvAll]
  | b :: bs, [] => by simp [eqL, PyData.eqvAll]
  | b :: bs, c :: cs => by
    have ih := eqL_bools bs cs
    unfold eqL at ih ⊢
    rw [List.map_cons, List.map_cons, List.map_cons, List.map_cons, PyData.eqvAll, ih]
    show ((PyData.eqv (.bool b) (.bool c)) && _) = _
    rw [PyData.eqv]
    by_cases h : b = c
    · subst h; simp
    · simp [h]
theorem ok_bools (bs : List Bool) : (bs.map V.bl).all okF = true := by
  rw [List.all_map, List.all_eq_true]
  intro x _
  rfl
theorem ok_ints (bs : List Int) : (bs.map V.int).all okF = true := by
  rw [List.all_map, List.all_eq_true]
  intro x _
  rfl
theorem eqL_nil (xs : List V) : eqL xs [] = xs.isEmpty := by
  cases xs with
  | nil => simp [eqL, PyData.eqvAll]
  | cons x xs => simp [eqL, PyData.eqvAll]
/-! ### the law's draws: two ints in a list -/
def okD (s : Int × Int) : Prop := 0 ≤ s.1 ∧ 0 ≤ s.2 ∧ s.2 < 2147483647
def dw (s : Int × Int) : HO := .lst [.int s.1, .int s.2]
def sp_draws (K : PySem.W.Frag) : Sp := fun vs H Q _ => ∃ (a : Addr) (ns : List Int) (k : Int), vs = [.ref a, .int k] ∧ SqL K H a (ns.map V.int) ∧ ns.length ≤ 63 ∧ 0 ≤ k ∧ k ≤ 1000000 ∧
  ∀ (p : Addr) (d : Int × Int) (H' : Hp), Same H H' → H p = none → okD d → H' p = some (dw d) → Q (.ref p) H'
def sp_draw : Sp := fun vs H Q _ => ∃ (p : Addr) (d : Int × Int) (u : Int), vs = [.ref p, .int u] ∧ H p = some (dw d) ∧ okD d ∧ 0 < u ∧ u ≤ 1000000000 ∧
  ∀ (v : Int) (d' : Int × Int) (H' : Hp), 0 ≤ v → v < u → okD d' → H' p = some (dw d') → (∀ q o, q ≠ p → H q = some o → H' q = some o) → Q (.int v) H'
theorem ix_at {K : PySem.W.Frag} {H : Hp} {p : Addr} {xs : List V} {i : Int} {v : V} {Q : VK} (h : SqL K H p xs) (h0 : 0 ≤ i) (hv : xs[i.toNat]? = some v) (q : Q v H) : rIxL K (.ref p) (.int i) H Q := by
  refine ⟨p, xs, i, v, rfl, rfl, h, ?_, q⟩
  have e : i = ((i.toNat : Nat) : Int) := by omega
  rw [e]
  exact atI_nat hv
theorem ix_str_at {z : Str} {i : Int} {c : Nat} {H : Hp} {Q : VK} (hz : z.length ≤ 100000) (h0 : 0 ≤ i) (hc : z.cps.toList[i.toNat]? = some c) (q : Q (.str ⟨#[c]⟩) H) : rIxS (.str z) (.int i) H Q := by
  refine ⟨z, i, c, rfl, rfl, Nat.le_trans hz (by decide), ?_, q⟩
  have e : i = ((i.toNat : Nat) : Int) := by omega
  rw [e]
  exact atI_nat hc
theorem set_at {H : Hp} {p : Addr} {xs : List V} {i : Int} {v : V} {Q : Hp → Prop} (h : H p = some (.lst xs)) (h0 : 0 ≤ i) (hi : i < xs.length) (q : Q (upd H p (.lst (xs.set i.toNat v)))) : rSetL (.ref p) (.int i) v H Q := by
  refine ⟨p, xs, i, i.toNat, rfl, rfl, h, ?_, q⟩
  unfold ixN
  rw [if_pos h0, if_pos hi]
theorem same_new {H : Hp} {p : Addr} (h : H p = none) (o : HO) : Same H (upd H p o) := fun b u q => by rw [upd_ne (ne_of_none q h)]; exact q

theorem ne_bools {K : PySem.W.Frag} {H : Hp} {a b : Addr} {bs cs : List Bool} {Q : VK} (ha : SqL K H a (bs.map V.bl)) (hb : SqL K H b (cs.map V.bl)) (q : Q (.bl (!decide (bs = cs))) H) : rNeD K (.ref a) (.ref b) H Q :=
  ne_lists ha hb (ok_bools bs) (ok_bools cs) (by rw [eqL_bools]; exact q)
theorem tyx_mono {K : PySem.W.Frag} {H H' : Hp} {x : V} {t : Value} (s : Same H H') (h : TyX K H x t) : TyX K H' x t := by
  cases h with
  | base b =>
    cases b with
    | non => exact .base .non
    | bl y => exact .base (.bl y)
    | int y => exact .base (.int y)
    | str y => exact .base (.str y)
    | flt y => exact .base (.flt y)
    | lst e => exact .base (.lst (s _ _ e))
    | frz e => exact .base (.frz (s _ _ e))
    | tup e => exact .base (.tup (s _ _ e))
    | dK e => exact .base (.dK (s _ _ e))
    | dT e => exact .base (.dT (s _ _ e))
    | ins e cl ha hn htk hm => exact .base (.ins (s _ _ e) cl ha hn htk hm)
  | byt b => exact .byt b
  | set e => exact .set (s _ _ e)
  | kList e c => exact .kList e c
  | kTuple e c => exact .kTuple e c
  | kDict e c => exact .kDict e c
  | fTuple e => exact .fTuple (s _ _ e)
  | fDict e => exact .fDict (s _ _ e)
theorem kd_mono {K : PySem.W.Frag} {H H' : Hp} {x : V} (s : Same H H') (h : Kd K H x) : Kd K H' x := by
  cases h with
  | non => exact .non
  | bl b => exact .bl b
  | int i => exact .int i
  | str z hz => exact .str z hz
  | ref h hn => exact .ref (tyx_mono s h) hn
theorem kd_lst {K : PySem.W.Frag} {H : Hp} {p : Addr} {xs : List V} (h : H p = some (.lst xs)) : Kd K H (.ref p) := .ref (.base (.lst h)) (.inl rfl)
theorem kd_tup {K : PySem.W.Frag} {H : Hp} {p : Addr} {xs : List V} (h : H p = some (.tup xs)) : Kd K H (.ref p) := .ref (.base (.tup h)) (.inr (.inl rfl))
theorem kd_dct {K : PySem.W.Frag} {H : Hp} {p : Addr} {xs : List (Key × V)} (h : H p = some (.dK xs)) : Kd K H (.ref p) := .ref (.base (.dK h)) (.inr (.inr rfl))
/-- for x in a list; what is walked is read first, the loop's rest stands behind R -/
theorem forL {K : PySem.W.Frag} {tl : TE} {g : TG} {tb : TS} {D : Ends} {σ : L2.St} {H : Hp}
    (h : ∀ R : VK, (∀ (a : Addr) (xs : List V) (Pv : Nat → L2.St → Hp → Prop) (H1 : Hp), SqL K H1 a xs → Pv 0 σ H1 → (∀ i σ H, i ≤ xs.length → Pv i σ H → SqL K H a xs) →
      (∀ i x σ H, xs[i]? = some x → Pv i σ H → g x σ H fun σ2 H2 => tb { D with nx := Pv (i + 1), ct := Pv (i + 1), bk := D.nx } σ2 H2) → (∀ σ H, Pv xs.length σ H → D.nx σ H) → R (.ref a) H1) → tl σ H R) : tFor (iList K tl) g tb D σ H :=
  h _ fun a xs Pv H1 hs h0 hl hst hd => ⟨a, rfl, ⟨xs, hs⟩, for_list (K := K) (a := a) (xs := xs) Pv h0 hl hst hd⟩
/-- for i in range(n) -/
theorem forR {ta : TA} {g : TG} {tb : TS} {D : Ends} {σ : L2.St} {H : Hp}
    (h : ∀ R : List V → Hp → Prop, (∀ (j : Int) (Pv : Nat → L2.St → Hp → Prop) (H1 : Hp), -(2 ^ 62) ≤ j → j < 2 ^ 62 → Pv 0 σ H1 →
      (∀ i σ H, i < j.toNat → Pv i σ H → g (.int (0 + (i : Int))) σ H fun σ2 H2 => tb { D with nx := Pv (i + 1), ct := Pv (i + 1), bk := D.nx } σ2 H2) → (∀ σ H, Pv j.toNat σ H → D.nx σ H) → R [.int j] H1) → ta σ H R) : tFor (iRng1 ta) g tb D σ H :=
  h _ fun j Pv H1 h1 h2 h0 hst hd => ⟨j, rfl, h1, h2, for_range (lo := 0) (n := j.toNat) Pv h0 hst hd⟩
/-- [e for i in range(n)] -/
theorem lcR {ta : TA} {g : TG} {tt : TT} {te : TE} {vs : List Nat} {σ : L2.St} {H : Hp} {Q : VK}
    (h : ∀ R : List V → Hp → Prop, (∀ (j : Int) (H1 : Hp), -(2 ^ 62) ≤ j → j < 2 ^ 62 → (∀ D, H1 D = none → ∃ Pv : Nat → Hp → Prop, Pv 0 (upd H1 D (.lst [])) ∧
      (∀ i H, i < j.toNat → Pv i H → g (.int (0 + (i : Int))) (wipe σ vs) H fun σ2 H2 => wipe σ2 vs = wipe σ vs ∧ tt σ2 H2 fun b H3 =>
        if b = true then te σ2 H3 fun y H4 => ∃ acc, H4 D = some (.lst acc) ∧ acc.length < sizeLine ∧ Pv (i + 1) (upd H4 D (.lst (acc ++ [y]))) else Pv (i + 1) H3) ∧ ∀ H, Pv j.toNat H → Q (.ref D) H) → R [.int j] H1) → ta σ H R) : tLc (iRng1 ta) g tt te vs σ H Q :=
  h _ fun j H1 h1 h2 hk => ⟨j, rfl, h1, h2, fun D hD => by
    obtain ⟨Pv, h0, hs, hd⟩ := hk D hD
    exact lc_range (lo := 0) (n := j.toNat) Pv h0 hs hd⟩
/-- [e for x in a list] -/
theorem lcL {K : PySem.W.Frag} {tl : TE} {g : TG} {tt : TT} {te : TE} {vs : List Nat} {σ : L2.St} {H : Hp} {Q : VK}
    (h : ∀ R : VK, (∀ (a : Addr) (xs : List V) (H1 : Hp), SqL K H1 a xs → (∀ D, H1 D = none → ∃ Pv : Nat → Hp → Prop, Pv 0 (upd H1 D (.lst [])) ∧ (∀ i H, i ≤ xs.length → Pv i H → SqL K H a xs) ∧
      (∀ i x H, xs[i]? = some x → Pv i H → g x (wipe σ vs) H fun σ2 H2 => wipe σ2 vs = wipe σ vs ∧ tt σ2 H2 fun b H3 =>
        if b = true then te σ2 H3 fun y H4 => ∃ acc, H4 D = some (.lst acc) ∧ acc.length < sizeLine ∧ Pv (i + 1) (upd H4 D (.lst (acc ++ [y]))) else Pv (i + 1) H3) ∧ ∀ H, Pv xs.length H → Q (.ref D) H) → R (.ref a) H1) → tl σ H R) : tLc (iList K tl) g tt te vs σ H Q :=
  h _ fun a xs H1 hs hk => ⟨a, rfl, ⟨xs, hs⟩, fun D hD => by
    obtain ⟨Pv, h0, hl, hst, hd⟩ := hk D hD
    exact lc_list (K := K) (a := a) (xs := xs) Pv h0 hl hst hd⟩
theorem sz_of {n : Nat} (h : n ≤ 100000) : n ≤ sizeLine := Nat.le_trans h (by decide)
theorem same_mut {H H' : Hp} {p : Addr} {o : HO} (s : Same H H') (h : H p = none) : Same H (upd H' p o) := fun b u q => by rw [upd_ne (ne_of_none q h)]; exact s b u q

theorem same_but {H H0 H1 : Hp} {p : Addr} (s : Same H H0) (hp : H p = none) (k : ∀ q o, q ≠ p → H0 q = some o → H1 q = some o) : Same H H1 := fun b o e => k b o (ne_of_none e hp) (s b o e)
theorem free_but {H0 H1 : Hp} {p q : Addr} {o : HO} (k : ∀ q o, q ≠ p → H0 q = some o → H1 q = some o) (ep : H1 p = some o) (h : H1 q = none) : H0 q = none := by
  cases e : H0 q with
  | none => rfl
  | some u =>
    have hq : q ≠ p := fun z => by rw [z, ep] at h; cases h
    rw [k q u hq e] at h
    cases h
/-! ### texts as lists of signs -/
theorem tl_inj {x y : Str} (h : tl x = tl y) : x = y := str_ext h
theorem tl_len (x : Str) : (tl x).length = x.length := Array.length_toList
theorem tl_app (x y : Str) : tl (x ++ y) = tl x ++ tl y := tl_append x y
theorem joinL_nil : ∀ l : List (List Nat), joinL [] l = l.flatten
  | [] => rfl
  | [p] => by simp [joinL]
  | p :: q :: r => by
    rw [joinL, joinL_nil (q :: r)]
    simp
theorem tl_join0 (ys : List Str) : tl (Txt.join ("" : Str) ys) = (ys.map tl).flatten := by
  rw [join_eq, tl_join, show tl ("" : Str) = [] from by decide +kernel, joinL_nil]
def sg (c : Nat) : Str := ⟨#[c]⟩
theorem tl_sg (c : Nat) : tl (sg c) = [c] := rfl
theorem flat_sg : ∀ cs : List Nat, ((cs.map sg).map tl).flatten = cs
  | [] => rfl
  | c :: cs => by
    rw [List.map_cons, List.map_cons, List.flatten_cons, flat_sg cs]
    rfl
theorem len_sg (cs : List Nat) : ((cs.map sg).map (·.length)).sum = cs.length := by
  induction cs with
  | nil => rfl
  | cons c cs ih =>
    rw [List.map_cons, List.map_cons, List.sum_cons, ih]
    show 1 + _ = _
    rw [List.length_cons]; omega

/-! ### texts repeated -/
def srep (z : Str) (k : Nat) : Str := ⟨(List.replicate k (tl z)).flatten.toArray⟩
theorem tl_srep (z : Str) (k : Nat) : tl (srep z k) = (List.replicate k (tl z)).flatten := rfl
theorem len_flat_rep (l : List Nat) (k : Nat) : (List.replicate k l).flatten.length = k * l.length := by
  induction k with
  | zero => simp
  | succ k ih => rw [List.replicate_succ, List.flatten_cons, List.length_append, ih, Nat.succ_mul]; omega
theorem foldl_arr (a : Array Nat) : ∀ (k : Nat) (b : Array Nat), ((List.replicate k a).foldl (· ++ ·) b).toList = b.toList ++ (List.replicate k a.toList).flatten
  | 0, b => by simp
  | k + 1, b => by rw [List.replicate_succ, List.foldl_cons, foldl_arr a k]; simp [List.replicate_succ]
def rRepS : R2 := fun x y H Q => ∃ z n, x = .str z ∧ y = .int n ∧ 0 ≤ n ∧ n < 2 ^ 62 ∧ z.length * n.toNat ≤ 1000000 ∧ Q (.str (srep z n.toNat)) H
theorem op_rep_str {X : Cx} : OpR X (binaryOp .Mult) rRepS := by
  intro pins s σ H x y v u Q I rx ry h
  obtain ⟨z, n, rfl, rfl, h1, h2, hz, q⟩ := h
  obtain ⟨t, rfl⟩ := rx
  obtain ⟨t', rfl⟩ := ry
  have e24 : (2 : Nat) ^ 24 = 16777216 := by decide
  have hl : (z.length : Int) * n ≤ 1000000 := by
    have : ((z.length * n.toNat : Nat) : Int) ≤ 1000000 := by omega
    rw [Int.natCast_mul, Int.toNat_of_nonneg h1] at this
    exact this
  refine PySem.P.mul_str ?_ ?_ ?_ ?_
  · rw [decide_eq_false (by omega), decide_eq_false (by omega)]; rfl
  · intro hn _ hgt
    have hd : (2 ^ 63 - 1) / n ≥ z.length := by
      refine (Int.le_ediv_iff_mul_le (by omega)).mpr ?_
      omega
    omega
  · intro _ _
    show decide (_ > sizeLine) = false
    refine decide_eq_false ?_
    rw [sizeLine_eq]
    omega
  · have fin : ∀ w : Str, tl w = (List.replicate n.toNat (tl z)).flatten → w = srep z n.toNat := fun w hw => ext_tl hw
    have small : ∀ w : Str, tl w = (List.replicate n.toNat (tl z)).flatten → w.length ≤ sizeLine := fun w hw => by
      rw [len_tl, hw, len_flat_rep, sizeLine_eq, ← len_tl, Nat.mul_comm]
      omega
    by_cases hn : n < 1
    · rw [if_pos hn]
      have e : Str.empty = srep z n.toNat := fin _ (by rw [show n.toNat = 0 by omega]; rfl)
      exact ⟨by decide, by rw [e]; exact ⟨.str _, H, I.tok _, ⟨_, rfl⟩, q⟩⟩
    · rw [if_neg hn]
      by_cases hc : (n == 1 || z.length == 0) = true
      · rw [if_pos hc]
        have e : z = srep z n.toNat := fin _ (by
          rw [Bool.or_eq_true, beq_iff_eq, beq_iff_eq] at hc
          rcases hc with hc | hc
          · rw [hc]; simp
          · have h0 : tl z = [] := List.eq_nil_of_length_eq_zero (by rw [← len_tl]; exact hc)
            rw [h0]; simp)
        show EP X pins σ Q (.str z t) s
        exact ⟨.str (srep z n.toNat), H, I, by rw [← e]; exact ⟨_, rfl⟩, q⟩
      · rw [if_neg hc]
        have e : tl (⟨(List.replicate n.toNat z.cps).foldl (· ++ ·) #[]⟩ : Str) = (List.replicate n.toNat (tl z)).flatten := by
          show ((List.replicate n.toNat z.cps).foldl (· ++ ·) #[]).toList = _
          rw [foldl_arr]; rfl
        have e2 := fin _ e
        exact ⟨small _ e, by rw [e2]; exact ⟨.str _, H, I.tok _, ⟨_, rfl⟩, q⟩⟩
/-! ### trees in the heap -/
inductive PVs (H : Hp) : List V → Parts → Prop where
  | nil : PVs H [] .nil
  | seq {s : Str} {vs r} : PVs H vs r → PVs H (.str s :: vs) (.seq (tl s) r)
  | rep {q p : Addr} {n : Nat} {vb vs b r} : H q = some (.tup [.ref p, .int (n : Int)]) → H p = some (.lst vb) → vb.length ≤ 100000 → PVs H vb b → PVs H vs r → PVs H (.ref q :: vs) (.rep b n r)
theorem PVs.mono {H H' : Hp} (s : Same H H') {vs ps} (h : PVs H vs ps) : PVs H' vs ps := by
  induction h with
  | nil => exact .nil
  | seq _ ih => exact .seq ih
  | rep h1 h2 h3 _ _ ih1 ih2 => exact .rep (s _ _ h1) (s _ _ h2) h3 ih1 ih2
theorem PVs.app {H : Hp} {vs ps} (h : PVs H vs ps) {vs' ps'} (h' : PVs H vs' ps') : PVs H (vs ++ vs') (ps.app ps') := by
  induction h with
  | nil => exact h'
  | seq _ ih => exact .seq ih
  | rep h1 h2 h3 h4 _ _ ih2 => exact .rep h1 h2 h3 h4 ih2
def PartsAt (H : Hp) (p : Addr) (ps : Parts) : Prop := ∃ vs, H p = some (.lst vs) ∧ vs.length ≤ 100000 ∧ PVs H vs ps
theorem PartsAt.mono {H H' : Hp} (s : Same H H') {p ps} (h : PartsAt H p ps) : PartsAt H' p ps := by
  obtain ⟨vs, h1, h2, h3⟩ := h
  exact ⟨vs, s _ _ h1, h2, h3.mono s⟩
def Opn (F H' : Hp) (m : Nat) : List Addr → List Parts → Prop
  | [], [] => True
  | a :: as, o :: os => (∃ va, H' a = some (.lst va) ∧ PVs F va o ∧ va.length ≤ m) ∧ Opn F H' m as os
  | _, _ => False
theorem Opn.len {F H' : Hp} {m : Nat} : ∀ {as os}, Opn F H' m as os → as.length = os.length
  | [], [], _ => rfl
  | a :: as, o :: os, h => by rw [List.length_cons, List.length_cons, Opn.len h.2]
theorem Opn.mono {F F' H' H'' : Hp} {m m' : Nat} (s : Same F F') (hm : m ≤ m') : ∀ {as os}, (∀ a ∈ as, H'' a = H' a) → Opn F H' m as os → Opn F' H'' m' as os
  | [], [], _, _ => trivial
  | a :: as, o :: os, k, ⟨⟨va, h1, h2, h3⟩, h⟩ => ⟨⟨va, by rw [k a List.mem_cons_self]; exact h1, h2.mono s, by omega⟩, Opn.mono s hm (fun b hb => k b (List.mem_cons_of_mem _ hb)) h⟩
theorem Opn.some {F H' : Hp} {m : Nat} : ∀ {as os}, Opn F H' m as os → ∀ a ∈ as, ∃ o, H' a = some o
  | a :: as, o :: os, ⟨⟨va, h1, _⟩, h⟩, b, hb => by
    rcases List.mem_cons.mp hb with rfl | hb
    · exact ⟨_, h1⟩
    · exact Opn.some h b hb
/-! ### the reader's lists in the heap -/
structure Lay (H0 F H' : Hp) (p q : Addr) (as : List Addr) (os : List Parts) (ps : Parts) (n : Nat) : Prop where
  s0 : Same H0 F
  s1 : Same F H'
  nd : (p :: q :: as).Nodup
  fr : ∀ a ∈ p :: q :: as, F a = none
  hp : H' p = some (.lst (as.reverse.map V.ref))
  hq : ∃ vq, H' q = some (.lst vq) ∧ PVs F vq ps ∧ vq.length ≤ n
  op : Opn F H' n as os
theorem Lay.init {H : Hp} {p q : Addr} (h1 : H p = none) (h2 : upd H p (.lst []) q = none) : Lay H H (upd (upd H p (.lst [])) q (.lst [])) p q [] [] .nil 0 := by
  have hpq : p ≠ q := fun e => by rw [← e, upd_same] at h2; cases h2
  have hq : H q = none := by rw [← h2, upd_ne (Ne.symm hpq)]
  refine ⟨fun _ _ h => h, (same_new h1 _).trans (same_new h2 _), ?_, ?_, ?_, ⟨[], upd_same, .nil, Nat.le_refl _⟩, trivial⟩
  · simp [hpq]
  · intro a ha
    simp only [List.mem_cons, List.not_mem_nil, or_false] at ha
    rcases ha with rfl | rfl
    · exact h1
    · exact hq
  · rw [upd_ne hpq, upd_same]; rfl
theorem Lay.opn {H0 F H' : Hp} {p q r : Addr} {as os ps n} (h : Lay H0 F H' p q as os ps n) (hr : upd H' p (.lst (as.reverse.map V.ref ++ [.ref q])) r = none) :
    Lay H0 F (upd (upd H' p (.lst (as.reverse.map V.ref ++ [.ref q]))) r (.lst [])) p r (q :: as) (ps :: os) .nil (n + 1) := by
  obtain ⟨vq, hq, pq, lq⟩ := h.hq
  have nd := h.nd
  simp only [List.nodup_cons, List.mem_cons, not_or] at nd
  have rp : r ≠ p := fun e => by rw [e, upd_same] at hr; cases hr
  have hr' : H' r = none := by rw [← hr, upd_ne rp]
  have rq : r ≠ q := fun e => by rw [e, hq] at hr'; cases hr'
  have ra : r ∉ as := fun e => by obtain ⟨o, ho⟩ := h.op.some r e; rw [ho] at hr'; cases hr'
  have fr : F r = none := by
    cases e : F r with
    | none => rfl
    | some u => rw [h.s1 _ _ e] at hr'; cases hr'
  have fp := h.fr p List.mem_cons_self
  refine ⟨h.s0, (same_mut h.s1 fp).trans (same_new hr _), ?_, ?_, ?_, ⟨[], upd_same, .nil, Nat.zero_le _⟩, ?_⟩
  · simp only [List.nodup_cons, List.mem_cons, not_or]
    exact ⟨⟨Ne.symm rp, nd.1.1, nd.1.2⟩, ⟨rq, ra⟩, nd.2⟩
  · intro a ha
    simp only [List.mem_cons] at ha
    rcases ha with rfl | rfl | rfl | ha
    · exact fp
    · exact fr
    · exact h.fr _ (by simp)
    · exact h.fr _ (by simp [ha])
  · rw [upd_ne (Ne.symm rp), upd_same, List.reverse_cons, List.map_append]; rfl
  · refine ⟨⟨vq, ?_, pq, by omega⟩, h.op.mono (fun _ _ e => e) (by omega) fun a ha => ?_⟩
    · rw [upd_ne (Ne.symm rq), upd_ne (Ne.symm nd.1.1), hq]
    · rw [upd_ne (fun e => ra (by rw [← e]; exact ha)), upd_ne (fun e => nd.1.2 (by rw [← e]; exact ha))]
theorem Lay.add {H0 F H' : Hp} {p q : Addr} {as os ps n vq} {s : Str} (h : Lay H0 F H' p q as os ps n) (hq : H' q = some (.lst vq)) {m : Nat} (hm : n + 1 ≤ m) :
    Lay H0 F (upd H' q (.lst (vq ++ [.str s]))) p q as os (ps.app (.seq (tl s) .nil)) m := by
  obtain ⟨vq', hq', pq, lq⟩ := h.hq
  rw [hq] at hq'
  injection hq' with e
  injection e with e
  subst e
  have nd := h.nd
  simp only [List.nodup_cons, List.mem_cons, not_or] at nd
  refine ⟨h.s0, same_mut h.s1 (h.fr q (by simp)), h.nd, h.fr, ?_, ⟨_, upd_same, pq.app (.seq .nil), ?_⟩, h.op.mono (fun _ _ e => e) (by omega) fun a ha => ?_⟩
  · rw [upd_ne nd.1.1]; exact h.hp
  · rw [List.length_append, List.length_singleton]; omega
  · rw [upd_ne (fun e => nd.2.1 (by rw [← e]; exact ha))]
theorem Lay.cls {H0 F H' : Hp} {p q r a : Addr} {as os ps o n va} {c : Nat} (h : Lay H0 F H' p q (a :: as) (o :: os) ps n) (hr : H' r = none) (ha : H' a = some (.lst va)) (hn : n ≤ 100000) {m : Nat} (hm : n + 1 ≤ m) :
    ∃ F', Lay H0 F' (upd (upd (upd H' r (.tup [.ref q, .int (c : Int)])) p (.lst ((a :: as).reverse.map V.ref).dropLast)) a (.lst (va ++ [.ref r]))) p a as os (o.app (.rep ps c .nil)) m := by
  obtain ⟨vq, hq, pq, lq⟩ := h.hq
  have op := h.op
  obtain ⟨⟨va', ha', pa, la⟩, op⟩ := op
  rw [ha] at ha'
  injection ha' with e
  injection e with e
  subst e
  have nd := h.nd
  simp only [List.nodup_cons, List.mem_cons, not_or] at nd
  obtain ⟨⟨pq', pa', pas⟩, ⟨qa, qas⟩, aas, ndas⟩ := nd
  have nr : ∀ b, (∃ o, H' b = some o) → b ≠ r := fun b ⟨o, ho⟩ e => by rw [e, hr] at ho; cases ho
  have rp := nr p ⟨_, h.hp⟩
  have rq := nr q ⟨_, hq⟩
  have ra := nr a ⟨_, ha⟩
  have fr : F r = none := by
    cases e : F r with
    | none => rfl
    | some u => rw [h.s1 _ _ e] at hr; cases hr
  have fq : F q = none := h.fr q (by simp)
  have sF : Same F (upd (upd F q (.lst vq)) r (.tup [.ref q, .int (c : Int)])) := (same_new fq _).trans (same_new (by rw [upd_ne (Ne.symm rq)]; exact fr) _)
  have hq3 : upd (upd F q (.lst vq)) r (.tup [.ref q, .int (c : Int)]) q = some (.lst vq) := by rw [upd_ne rq, upd_same]
  refine ⟨upd (upd F q (.lst vq)) r (.tup [.ref q, .int (c : Int)]), fun b u e => sF b u (h.s0 b u e), ?_, ?_, ?_, ?_, ⟨_, upd_same, ?_, ?_⟩, ?_⟩
  · intro b u e
    by_cases eb : b = r
    · subst eb
      rw [upd_same] at e
      rw [upd_ne (Ne.symm ra), upd_ne (Ne.symm rp), upd_same]; exact e
    · rw [upd_ne eb] at e
      by_cases eq : b = q
      · subst eq
        rw [upd_same] at e
        rw [upd_ne qa, upd_ne (Ne.symm pq'), upd_ne rq, hq]; exact e
      · rw [upd_ne eq] at e
        have np : b ≠ p := fun z => by rw [z, h.fr p (by simp)] at e; cases e
        have na : b ≠ a := fun z => by rw [z, h.fr a (by simp)] at e; cases e
        rw [upd_ne na, upd_ne np, upd_ne eb]
        exact h.s1 _ _ e
  · simp only [List.nodup_cons, List.mem_cons, not_or]
    exact ⟨⟨pa', pas⟩, aas, ndas⟩
  · intro b hb
    have hb2 : b ≠ r ∧ b ≠ q ∧ F b = none := by
      simp only [List.mem_cons] at hb
      rcases hb with rfl | rfl | hb
      · exact ⟨rp, pq', h.fr _ (by simp)⟩
      · exact ⟨ra, Ne.symm qa, h.fr _ (by simp)⟩
      · exact ⟨nr b (op.some b hb), fun e => qas (by rw [← e]; exact hb), h.fr _ (by simp [hb])⟩
    rw [upd_ne hb2.1, upd_ne hb2.2.1]; exact hb2.2.2
  · rw [upd_ne pa', upd_same, List.reverse_cons, List.map_append, List.map_singleton, List.dropLast_concat]
  · exact (pa.mono sF).app (.rep upd_same hq3 (by omega) (pq.mono sF) .nil)
  · rw [List.length_append, List.length_singleton]; omega
  · refine op.mono sF (by omega) fun b hb => ?_
    rw [upd_ne (fun e => aas (by rw [← e]; exact hb)), upd_ne (fun e => pas (by rw [← e]; exact hb)), upd_ne (nr b (op.some b hb))]
theorem Lay.free {H0 F H' : Hp} {p q : Addr} {as os ps n} (h : Lay H0 F H' p q as os ps n) {b : Addr} (hb : b ∈ p :: q :: as) : H0 b = none := by
  cases e : H0 b with
  | none => rfl
  | some u =>
    have := h.s0 b u e
    rw [h.fr b hb] at this; cases this
theorem PVs.uncons {H : Hp} {x : V} {r : List V} {ps : Parts} (h : PVs H (x :: r) ps) : ∃ a b, PVs H [x] a ∧ PVs H r b ∧ ps.den = a.den ++ b.den ∧ a.dep ≤ ps.dep ∧ b.dep ≤ ps.dep ∧ (ps.ok → a.ok ∧ b.ok) := by
  cases h with
  | @seq s _ r0 pr =>
    exact ⟨.seq (tl s) .nil, r0, .seq .nil, pr, by simp [Parts.den], Nat.zero_le _, Nat.le_refl _, fun h => ⟨⟨h.1, h.2.1, trivial⟩, h.2.2⟩⟩
  | @rep q p n vb vs b r0 h1 h2 h3 hb pr =>
    exact ⟨.rep b n .nil, r0, .rep h1 h2 h3 hb .nil, pr, by simp [Parts.den], by simp only [Parts.dep]; omega, by simp only [Parts.dep]; omega, fun h => ⟨⟨h.1, h.2.1, trivial⟩, h.2.2⟩⟩
theorem exm_of {K : PySem.W.Frag} {S C : Addr} {b : Bool} (h1 : PySem.W.subIn K (.ref C) (.type "BaseException") = some true) (h2 : PySem.W.isClsIn K C = true) (h3 : PySem.W.typeIn K (.ref C) = some (.type "type")) (h4 : PySem.W.subIn K (.ref S) (.ref C) = some b) :
    PySem.W.exmOne K (.ref S) (.ref C) = some b := by
  have e1 : (PySem.W.subIn K (.ref C) (.type "BaseException") == some true) = true := by rw [h1] <;> rfl
  have e2 : ((PySem.W.clsIn K C).isSome && PySem.W.typeIn K (.ref C) == some (.type "type")) = true := by
    rw [show (PySem.W.clsIn K C).isSome = true from h2, h3] <;> rfl
  unfold PySem.W.exmOne
  rw [if_pos e1]
  show (if ((PySem.W.clsIn K C).isSome && PySem.W.typeIn K (.ref C) == some (.type "type")) = true then PySem.W.subIn K (.ref S) (.ref C) else none) = some b
  rw [if_pos e2]
  exact h4

end My
/-! ### own classes: made through a local name, own operators, own ==, != -/
namespace My
open PySem PySem.Spec PyProof.Rows L2
/-- x(..), x a local name that holds the class at C -/
def tMakeL (i : Nat) (C : Addr) (sp : Sp) (dvs : List V) (E : XK) (t : TA) : TE := fun σ H Q => σ[i]? = some (some (.ref C)) ∧ tMake C sp dvs E t σ H Q
section
variable {X : Cx} {CX : CXT} {k i : Nat} {f C : Addr} {fd : FuncData} {ps : List Str} {sp : Sp} {dvs : List V} {ds : List Value} {E : XK} {x : Str} {p pos : Pos} {e : Expr} {es : List Expr} {t : TA}
theorem pe_makeL (M : Mk X.K C f) (F : FnOk X.prog X.w X.K X.mg X.base CX k f fd ps sp) (hr : Room (k + 1) X.A) (hN : X.N[i]? = some x) (hv : Vis X.env.scope x) (hb : Binds X.K fd ps ds) (hd : Vals dvs ds) (hx : Passes CX X E) (ha : PA X (e :: es) t)
    (hdb : (x == ("__debug__" : Str)) = false := by decide) (hcd : (x == ("__classdict__" : Str)) = false := by decide)
    (he : starEach (e :: es) X.env = (false, eval e X.env) :: starEach es X.env := by rfl) (hpl : (backTo pos (starEach es X.env)).any (·.1) = false := by rfl) : PE X (.Call (.Name x p) (e :: es) [] pos) (tMakeL i C sp dvs E t) := by
  refine ⟨fun pins s σ H Q I h => ?_⟩
  obtain ⟨hs, ht⟩ := h
  refine wpAny_Call_Name_kw (thn ((pe_var (pos := p) hN hv hdb hcd).run pins s σ H (fun v H1 => v = .ref C ∧ H1 = H) I ⟨.ref C, hs, rfl, rfl⟩) fun u s1 ⟨v, H1, I1, r1, q1⟩ => ?_)
  obtain ⟨rfl, rfl⟩ := q1
  cases r1
  refine PySem.W.callWith_K (h₀ := X.base) I.ok.mod.kin M.kp (thn (ha.run pos pins s1 σ _ _ I1 ht) fun us s2 ⟨vs, H2, I2, r, q⟩ => ⟨I2.kIn, ?_⟩) he hpl
  exact run_make M F hr hb hd hx I2 r q
/-- a value of the layer is never NotImplemented -/
theorem ep_back {pins : List (Addr × Obj)} {σ : L2.St} {Q : VK} {w : Value} {s : Shared} (h : EP X pins σ Q w s) : PySem.W.CmpBack (EP X pins σ Q) w s := by
  obtain ⟨v, H', I, r, q⟩ := id h
  cases w <;> first | exact h | skip
  cases v <;> first | (obtain ⟨_, r⟩ := r; exact nomatch r) | exact nomatch r
/-- a + b, a * b by the class's own method -/
def rOwn (K : PySem.W.Frag) (C : Addr) (sp : Sp) (E : XK) : R2 := fun x y H Q => ∃ a dx fs b dy gs, x = .ref a ∧ y = .ref b ∧ H a = some (.ins C dx fs) ∧ H b = some (.ins C dy gs) ∧ sp [x, y] H Q E
theorem op_own {op : Operator} (F : FnOk X.prog X.w X.K X.mg X.base CX k f fd ps sp) (hr : Room k X.A) (hb : Binds X.K fd ps []) (hx : Passes CX X E) (hc : PySem.W.selfFirst X.K C = true)
    (hs : PySem.W.findIn X.K (.ref C) (PySem.dunder op.info.2) = some (some (.ref f))) (hf : PySem.W.isFn X.K (.ref f) = true) : OpR X (binaryOp op) (rOwn X.K C sp E) := by
  intro pins s σ H x y v u Q I rx ry h
  obtain ⟨a, dx, fs, b, dy, gs, rfl, rfl, ha, hb', q⟩ := h
  cases rx
  cases ry
  obtain ⟨mA, J, _⟩ := ins_get I.hok ha
  obtain ⟨mB, J', _⟩ := ins_get I.hok hb'
  obtain ⟨od, J, _⟩ := J.look
  obtain ⟨od', J', _⟩ := J'.look
  obtain ⟨m, hF⟩ := I.fr
  refine PySem.W.binop_K hF I.ok.mod.kin J J'.type hc hs hf ?_
  refine wpAny_mono (run_fn (us := [.ref a, .ref b]) (vs := [.ref a, .ref b]) (dvs := []) (ds := []) F hr hb .nil hx I (.cons rfl (.cons rfl .nil)) (by exact q)) (fun w s' z => ep_back z) fun _ _ e => e
/-- what of a built-in class the library asks where it stands at the right of an own operator -/
structure RightT (K : PySem.W.Frag) (C : Addr) (nm T : String) : Prop where
  fo : ∃ fo, PySem.W.findIn K (.type T) (PySem.dunder nm) = some fo
  ro : ∃ ro, PySem.W.findIn K (.type T) (dunderR nm) = some ro
  su : PySem.W.subIn K (.type T) (.ref C) = some false
def tyN : V → Option String
  | .non => some "NoneType"
  | .bl _ => some "bool"
  | .int _ => some "int"
  | .str _ => some "str"
  | _ => none
def rOwnT (C : Addr) (sp : Sp) (E : XK) (Ts : List String) : R2 := fun x y H Q => ∃ a dx fs T, x = .ref a ∧ H a = some (.ins C dx fs) ∧ tyN y = some T ∧ T ∈ Ts ∧ sp [x, y] H Q E
theorem op_ownT {op : Operator} {Ts : List String} (F : FnOk X.prog X.w X.K X.mg X.base CX k f fd ps sp) (hr : Room k X.A) (hb : Binds X.K fd ps []) (hx : Passes CX X E) (hc : PySem.W.selfFirst X.K C = true)
    (hs : PySem.W.findIn X.K (.ref C) (PySem.dunder op.info.2) = some (some (.ref f))) (hf : PySem.W.isFn X.K (.ref f) = true) (hno : PySem.W.findIn X.K (.ref C) (dunderR op.info.2) = some none)
    (hT : ∀ T ∈ Ts, RightT X.K C op.info.2 T) : OpR X (binaryOp op) (rOwnT C sp E Ts) := by
  intro pins s σ H x y v u Q I rx ry h
  obtain ⟨a, dx, fs, T, rfl, ha, hty, hmem, q⟩ := h
  cases rx
  obtain ⟨mA, J, _⟩ := ins_get I.hok ha
  obtain ⟨od, J, _⟩ := J.look
  obtain ⟨m, hF⟩ := I.fr
  obtain ⟨⟨fo, h1⟩, ⟨ro, h2⟩, h3⟩ := hT T hmem
  have ht : typeOf u = pure (.type T) := by
    cases y <;> first | (cases hty; done) | skip
    · cases hty; cases ry; rfl
    · cases hty; cases ry; rfl
    · cases hty; obtain ⟨t, rfl⟩ := ry; rfl
    · cases hty; obtain ⟨t, rfl⟩ := ry; rfl
  refine PySem.W.ksp_binT hF I.ok.mod.kin J ht hc hs hf hno (.inl rfl) h1 h2 h3 ?_
  refine wpAny_mono (run_fn (us := [.ref a, u]) (vs := [.ref a, y]) (dvs := []) (ds := []) F hr hb .nil hx I (.cons rfl (.cons ry .nil)) (by exact q)) (fun w s' z => ep_back z) fun _ _ e => e
/-! ### ==, != -/
/-- what == and != of an own class need -/
structure EqK (K : PySem.W.Frag) (C f : Addr) : Prop where
  eq : PySem.W.findIn K (.ref C) "__eq__" = some (some (.ref f))
  fn : PySem.W.isFn K (.ref f) = true
  ne : PySem.W.findIn K (.ref C) "__ne__" = some (some (.builtin "object.__ne__"))
  ob : PySem.W.mroIn K C (.type "object") = some true
/-- the right operand: its type comes not ahead of C -/
def tyNot (K : PySem.W.Frag) (C : Addr) (y : V) (H : Hp) : Prop := ∃ tb, TyX K H y tb ∧ PySem.W.notFirst K C tb = true
def rOwnEq (K : PySem.W.Frag) (C : Addr) (sp : Sp) (E : XK) (neg : Bool) : R2 := fun x y H Q => ∃ a dx fs, x = .ref a ∧ H a = some (.ins C dx fs) ∧ tyNot K C y H ∧ sp [x, y] H (fun v H1 => ∃ b, v = .bl b ∧ Q (.bl (b != neg)) H1) E
theorem op_ownEq (F : FnOk X.prog X.w X.K X.mg X.base CX k f fd ps sp) (hr : Room k X.A) (hb : Binds X.K fd ps []) (hx : Passes CX X E) (q : EqK X.K C f) : OpR X (compareOp .Eq) (rOwnEq X.K C sp E false) := by
  intro pins s σ H x y v u Q I rx ry h
  obtain ⟨a, dx, fs, rfl, ha, ⟨tb, hty, hnf⟩, hsp⟩ := h
  cases rx
  obtain ⟨mA, J, _⟩ := ins_get I.hok ha
  obtain ⟨od, J, _⟩ := J.look
  obtain ⟨m, hF⟩ := I.fr
  obtain ⟨P, Z, hp, _⟩ := kit_of I ry hty
  refine PySem.W.cmp_ofEq (PySem.W.cmp_K (op := .Eq) (tb := tb) hr.units0 hF I.ok.mod.kin J (Z.ty _ _ I.kIn hp) hnf q.eq q.fn ?_)
  refine wpAny_mono (run_fn (us := [.ref a, u]) (vs := [.ref a, y]) (dvs := []) (ds := []) F hr hb .nil hx I (.cons rfl (.cons ry .nil)) (by exact hsp)) (fun w s' z => ?_) fun _ _ e => e
  refine ep_back ?_
  obtain ⟨v', H', I', r', b, rfl, q'⟩ := z
  rw [Bool.bne_false] at q'
  exact ⟨.bl b, H', I', r', q'⟩
theorem run_in1 {pins : List (Addr × Obj)} {σ : L2.St} {H : Hp} {s : Shared} {Q : VK} {us : List Value} {vs : List V} (F : FnOk X.prog X.w X.K X.mg X.base CX k f fd ps sp) (hr : Room (k + 1) X.A) (hb : Binds X.K fd ps []) (hx : Passes CX X E)
    (I : Inv X pins σ H s) (r : Vals vs us) (h : sp vs H Q E) : wpAny (model X.prog X.w) X.A.in1 (call (.ref f) us) (EP X pins σ Q) X.xe s := by
  have hl : (us ++ []).length = ps.length := by rw [List.append_nil, ← r.length]; exact F.len _ _ _ _ h
  have hb2 := hb s us I.kIn hl
  rw [List.append_nil] at hb2
  refine wpAny_call (codeAny_mono (F.run X.A.in1 X.stack s H ⟨us, []⟩ us vs Q E hr.in1 I.env0.in1 hb2 r h) fun r s' hq => ?_)
  cases r with
  | error e => exact hx pins σ H s e s' I hq
  | ok fl =>
    cases fl with
    | ret u => exact I.after hq
    | next => exact False.elim hq
    | brk => exact False.elim hq
    | cont => exact False.elim hq
end
end My
namespace PySem.W
open PySem PySem.Calls PyProof.Rows Builtin
section
variable {prog : Program} {w : World} {A : Around} {E : Value → Shared → Prop} {s : Shared} {K : Frag} {x C L f : Addr} {h₀ : Heap} {m : Str → Option Value} {ox : Obj} {od : Option Obj} {b tb : Value}
theorem my_objNe {b : Value} (X : K.In s.heap) (I : InstAt s.heap x ox C od) (hs : findIn K (.ref C) "__eq__" = some (some (.ref f))) (hf : isFn K (.ref f) = true) (hu : A.units < cLine) {Q : Fin → Shared → Prop}
    (hcall : wpAny (model prog w) A (call (.ref f) [.ref x, b]) (fun v s' => ∃ b, v = .bool b ∧ Q (.done (.ret (.bool (!b)))) s') E s) :
    wpAny (model prog w) A (Builtin.«object.__ne__» ⟨[.ref x, b], []⟩) Q E s := by
  have key : ∀ {Q' : Option Value → Shared → Prop}, wpAny (model prog w) A (call (.ref f) (.ref x :: [b])) (fun v => Q' (some v)) E s → wpAny (model prog w) A (callSpecialIfBound? (.ref x) (Str.ofString "__eq__") [b]) Q' E s := fun h => ifBound_K X I hs hf h
  unfold Builtin.«object.__ne__»
  repeat (first
    | with_reducible refine wpAny_cRoomFor hu ?_
    | (refine wpAny_bind (m := callSpecialIfBound? (.ref x) (Str.ofString "__eq__") [b])
        (key (wpAny_mono hcall (fun r s' hr => by
          obtain ⟨b, rfl, hq⟩ := hr
          repeat (first | exact hq | exact wpAny_pure hq | exact wpAny_truthy_bool hq | (refine wpAny_bind (m := truthy (.bool _)) (wpAny_truthy_bool ?_)) | wp_step)) fun _ _ e => e)))
    | wp_step)
theorem ifBound_B {M : Model} {id : String} {name : Str} {args : List Value} {Q : Option Value → Shared → Prop} (X : K.In s.heap) (I : InstAt s.heap x ox C od) (hs : findIn K (.ref C) name = some (some (.builtin id)))
    (hbd : ∀ self, bindSpecial (.builtin id) self = pure (.builtin id, [self])) (h : wpAny M A (call (.builtin id) (.ref x :: args)) (fun v => Q (some v)) E s) : wpAny M A (callSpecialIfBound? (.ref x) name args) Q E s := by
  simp only [callSpecialIfBound?, bindSpecialIfBound?]
  refine wpAny_holding (wpAny_bind (wpAny_bind (wpAny_bind (I.type.here ((looks_findIn X hs).here ?_)))))
  simp only [hbd]
  refine wpAny_bind (wpAny_askSetting (wpAny_ite ?_))
  have fin : wpAny M A (call (.builtin id) ([.ref x] ++ args) >>= fun v => pure (some v)) Q E s := wpAny_bind (wpAny_mono h (fun v s' h' => wpAny_pure h') fun _ _ h' => h')
  split
  · exact wpAny_bind (wpAny_pure (wpAny_pure fin))
  · exact wpAny_tryCatch (wpAny_bind (wpAny_pure (wpAny_pure fin)))
theorem my_ne {Q : Value → Shared → Prop} (hu : A.units + 1 < cLine) (F : Fr h₀ L s.heap m) (X₀ : K.In h₀) (I : InstAt s.heap x ox C od) (hb : Looks (model prog w) s.heap (typeOf b) tb) (hn : notFirst K C tb = true)
    (hs : findIn K (.ref C) "__eq__" = some (some (.ref f))) (hf : isFn K (.ref f) = true) (hne : findIn K (.ref C) "__ne__" = some (some (.builtin "object.__ne__"))) (hob : mroIn K C (.type "object") = some true)
    (h : wpAny (model prog w) A.in1 (call (.ref f) [.ref x, b]) (fun v s' => ∃ r, v = .bool r ∧ Q (.bool (!r)) s') E s) : wpAny (model prog w) A (richCompare .NotEq (.ref x) b) Q E s := by
  have X := X₀.keeps F.keep
  have one : wpAny (model prog w) A (tryCompare (.ref x) (cmpInfo .NotEq).2.1 b) (fun r s' => ∃ v, r = some v ∧ Q v s') E s := by
    unfold tryCompare
    refine wpAny_bind (ifBound_B X I hne PySem.F.slot_object_ne.bind ?_)
    refine wpAny_call (codeAny_call_builtin PySem.F.slot_object_ne.plain PySem.F.entry_object_ne (check_slot (i := "object.__ne__") (owner := "object") (n := "__ne__") PySem.F.cmpKind_ne PySem.F.cmpSplit_ne (I.type.andThen (looks_mroIn X hob)) (PySem.F.cmpArgs_ne _ _) ?_))
    refine wpAny_mono (my_objNe (A := A.in1) (Q := fun fin s' => ∃ r, fin = .done (.ret (.bool r)) ∧ Q (.bool r) s') X I hs hf hu (wpAny_mono h (fun v s' hv => ?_) fun _ _ e => e)) (fun fin s' hf' => ?_) fun _ _ e => e
    · obtain ⟨r, rfl, hq⟩ := hv
      exact ⟨r, rfl, !r, rfl, hq⟩
    · obtain ⟨r, rfl, hq⟩ := hf'
      exact wpAny_pure ⟨_, rfl, hq⟩
  unfold richCompare
  simp only [oneThing_ref]
  refine wpAny_holding (wpAny_bind (wpAny_cRoomFor (Nat.lt_of_succ_lt hu) ?_))
  refine wpAny_bind (I.type.here (wpAny_bind (hb.here ?_)))
  split
  · rename_i q
    have e : subIn K tb (.ref C) = some false := by
      rcases Bool.or_eq_true_iff.mp hn with e | e
      · rw [beq_iff_eq.mp e] at q; simp at q
      · exact beq_iff_eq.mp e
    refine wpAny_bind ((looks_subIn X e).here ?_)
    simp only [Bool.false_eq_true, if_false]
    refine wpAny_bind (wpAny_mono one (fun r s' z => ?_) fun _ _ e => e)
    obtain ⟨v, rfl, hq⟩ := z
    exact wpAny_pure hq
  · refine wpAny_bind (wpAny_pure ?_)
    simp only [Bool.false_eq_true, if_false]
    refine wpAny_bind (wpAny_mono one (fun r s' z => ?_) fun _ _ e => e)
    obtain ⟨v, rfl, hq⟩ := z
    exact wpAny_pure hq
end
end PySem.W
namespace My
open PySem PySem.Spec PyProof.Rows L2
section
variable {X : Cx} {CX : CXT} {k i : Nat} {f C : Addr} {fd : FuncData} {ps : List Str} {sp : Sp} {dvs : List V} {ds : List Value} {E : XK} {x : Str} {p pos : Pos} {e : Expr} {es : List Expr} {t : TA}
theorem op_ownNe (F : FnOk X.prog X.w X.K X.mg X.base CX k f fd ps sp) (hr : Room (k + 1) X.A) (hb : Binds X.K fd ps []) (hx : Passes CX X E) (q : EqK X.K C f) : OpR X (compareOp .NotEq) (rOwnEq X.K C sp E true) := by
  intro pins s σ H x y v u Q I rx ry h
  obtain ⟨a, dx, fs, rfl, ha, ⟨tb, hty, hnf⟩, hsp⟩ := h
  cases rx
  obtain ⟨mA, J, _⟩ := ins_get I.hok ha
  obtain ⟨od, J, _⟩ := J.look
  obtain ⟨m, hF⟩ := I.fr
  obtain ⟨P, Z, hp, _⟩ := kit_of I ry hty
  refine PySem.W.cmp_ofNotEq (PySem.W.my_ne (tb := tb) (hu_of hr) hF I.ok.mod.kin J (Z.ty _ _ I.kIn hp) hnf q.eq q.fn q.ne q.ob ?_)
  refine wpAny_mono (run_in1 (us := [.ref a, u]) (vs := [.ref a, y]) F hr hb hx I (.cons rfl (.cons ry .nil)) hsp) (fun w s' z => ?_) fun _ _ e => e
  obtain ⟨v', H', I', r', b, rfl, q'⟩ := z
  cases r'
  rw [Bool.bne_true] at q'
  exact ⟨b, rfl, .bl (!b), H', I', rfl, q'⟩
end
/-- max of three ints -/
theorem call_max3I {X : Cx} (hc : X.calm = true) : CallR X (.builtin "max") (fun xs H Q => ∃ i j l : Int, xs = [.int i, .int j, .int l] ∧ Q (.int (max (max i j) l)) H) := by
  intro pins s σ H xs us Q I r h
  obtain ⟨i, j, l, rfl, q⟩ := h
  refine call_max3Nu hc pins s σ H _ us Q I r ⟨_, _, _, .int (max (max i j) l), rfl, ?_, q⟩
  have e : ∀ a b : Int, nuMax2 (.int a) (.int b) = some (.int (max a b)) := fun a b => by
    show some (if decide (a < b) = true then V.int b else V.int a) = _
    by_cases h : a < b
    · rw [decide_eq_true h, if_pos rfl, show max a b = b by omega]
    · rw [decide_eq_false h, if_neg (by decide), show max a b = a by omega]
  unfold nuMax3
  rw [e]
  exact e _ _
/-- t1 = t2 = t3 = t4 = e -/
def tAsg4 (te : TE) (g1 g2 g3 g4 : TG) : TS := fun D σ H => te σ H fun x H1 => g1 x σ H1 fun σ1 H2 => g2 x σ1 H2 fun σ2 H3 => g3 x σ2 H3 fun σ3 H4 => g4 x σ3 H4 D.nx
theorem ps_asg4 {X : Cx} {e : Expr} {te : TE} {pos : Pos} {t1 t2 t3 t4 : Expr} {g1 g2 g3 g4 : TG} (he : PE X e te) (h1 : PG X t1 g1) (h2 : PG X t2 g2) (h3 : PG X t3 g3) (h4 : PG X t4 g4)
    (ha : (assignEach [t1, t2, t3, t4] X.env).map (·.2) = [assign t1 X.env, assign t2 X.env, assign t3 X.env, assign t4 X.env] := by rfl) (hw : swappedStores [t1, t2, t3, t4] e X.env = pure none := by rfl) :
    PS X (.Assign [t1, t2, t3, t4] e pos) (tAsg4 te g1 g2 g3 g4) := by
  refine ⟨fun pins s σ H D I h => ?_⟩
  refine wpAny_Assign_stores (thn (he.run pins s σ H _ I h) fun v s1 ⟨x, H1, I1, r1, q1⟩ => ?_) rfl hw
  rw [ha]
  refine wpAny_bind (wpAny_holding (thn (h1.run pins s1 σ H1 x v _ I1 r1 q1) fun _ s2 ⟨σ2, H2, I2, q2⟩ => ?_))
  refine wpAny_bind (wpAny_holding (thn (h2.run pins s2 σ2 H2 x v _ I2 r1 q2) fun _ s3 ⟨σ3, H3, I3, q3⟩ => ?_))
  refine wpAny_bind (wpAny_holding (thn (h3.run pins s3 σ3 H3 x v _ I3 r1 q3) fun _ s4 ⟨σ4, H4, I4, q4⟩ => ?_))
  exact thn (h4.run pins s4 σ4 H4 x v _ I4 r1 q4) fun _ s5 q => q
end My

set_option maxHeartbeats 4000000
/-! ### profiles: numbers, the sum, the product -/
namespace My
open PySem
structure Prf where
  puts : Int
  takes : Int
  low : Int
  high : Int
  fall : Int
namespace Prf
def off (p : Prf) : Int := p.puts - p.takes
def zero : Prf := ⟨0, 0, 0, 0, 0⟩
def pstp (p : Prf) (c : Nat) : Prf :=
  let o := p.off + (if c = 45 then -1 else 1)
  ⟨p.puts + (if c = 45 then 0 else 1), p.takes + (if c = 45 then 1 else 0), min p.low o, max p.high o, max p.fall (max p.high o - o)⟩
def add (p q : Prf) : Prf := ⟨p.puts + q.puts, p.takes + q.takes, min p.low (p.off + q.low), max p.high (p.off + q.high), max (max p.fall q.fall) (p.high - (p.off + q.low))⟩
def mul (p : Prf) (n : Int) : Prf :=
  if n = 0 then zero else
  let ls := p.off * (n - 1)
  ⟨p.puts * n, p.takes * n, p.low + min 0 ls, p.high + max 0 ls, if n = 1 then p.fall else max (max p.fall ((p.high - p.low) - p.off)) ((p.high - p.low) - ls)⟩
structure Ok (p : Prf) : Prop where
  p0 : 0 ≤ p.puts
  t0 : 0 ≤ p.takes
  l0 : p.low ≤ 0
  h0 : 0 ≤ p.high
  lo : p.low ≤ p.off
  oh : p.off ≤ p.high
  f1 : p.high - p.off ≤ p.fall
  f2 : -p.low ≤ p.fall
  f3 : p.fall ≤ p.high - p.low
theorem ext {p q : Prf} (h1 : p.puts = q.puts) (h2 : p.takes = q.takes) (h3 : p.low = q.low) (h4 : p.high = q.high) (h5 : p.fall = q.fall) : p = q := by
  cases p; cases q; simp only at h1 h2 h3 h4 h5; subst h1; subst h2; subst h3; subst h4; subst h5; rfl
theorem ok_zero : zero.Ok := by constructor <;> decide
theorem ok_pstp {p : Prf} (h : p.Ok) (c : Nat) : (p.pstp c).Ok := by
  obtain ⟨a, b, d, e, f, g, i, j, k⟩ := h
  unfold off at *
  unfold pstp off
  by_cases hc : c = 45
  · simp only [hc, if_true]
    constructor <;> simp only [off] <;> omega
  · simp only [hc, if_false]
    constructor <;> simp only [off] <;> omega
theorem add_pstp (p q : Prf) (c : Nat) : (p.add q).pstp c = p.add (q.pstp c) := by
  have ho : (p.add q).off = p.off + q.off := by simp only [add, off]; omega
  have hq : (q.pstp c).off = q.off + (if c = 45 then -1 else 1) := by simp only [pstp, off]; split <;> omega
  unfold pstp
  rw [ho]
  refine ext ?_ ?_ ?_ ?_ ?_
  · simp only [add]; omega
  · simp only [add]; omega
  · simp only [add]; split <;> omega
  · simp only [add]; split <;> omega
  · simp only [add]
    generalize (if c = 45 then (-1 : Int) else 1) = d
    generalize p.off = po
    generalize q.off = qo
    omega
theorem add_zero {p : Prf} (h : p.Ok) : p.add zero = p := by
  obtain ⟨a, b, d, e, f, g, i, j, k⟩ := h
  refine ext ?_ ?_ ?_ ?_ ?_ <;> simp only [add, zero] <;> omega
theorem zero_add {p : Prf} (h : p.Ok) : zero.add p = p := by
  obtain ⟨a, b, d, e, f, g, i, j, k⟩ := h
  refine ext ?_ ?_ ?_ ?_ ?_ <;> simp only [add, zero, off] <;> omega
theorem off_add (p q : Prf) : (p.add q).off = p.off + q.off := by simp only [add, off]; omega
theorem ok_add {p q : Prf} (h : p.Ok) (h' : q.Ok) : (p.add q).Ok := by
  have ho := off_add p q
  obtain ⟨a, b, d, e, f, g, i, j, k⟩ := h
  obtain ⟨a', b', d', e', f', g', i', j', k'⟩ := h'
  constructor <;> (try rw [ho]) <;> simp only [add] <;> omega
theorem add_assoc (p q r : Prf) : (p.add q).add r = p.add (q.add r) := by
  have ho := off_add p q
  have h2 := off_add q r
  refine ext ?_ ?_ ?_ ?_ ?_
  · simp only [add]; omega
  · simp only [add]; omega
  · show min (p.add q).low ((p.add q).off + r.low) = min p.low (p.off + (q.add r).low)
    rw [ho]; simp only [add]; omega
  · show max (p.add q).high ((p.add q).off + r.high) = max p.high (p.off + (q.add r).high)
    rw [ho]; simp only [add]; omega
  · show max (max (p.add q).fall r.fall) ((p.add q).high - ((p.add q).off + r.low)) = max (max p.fall (q.add r).fall) (p.high - (p.off + (q.add r).low))
    rw [ho]; simp only [add]; omega
theorem off_mul (p : Prf) (n : Nat) : (p.mul n).off = p.off * n := by
  unfold mul
  by_cases h : (n : Int) = 0
  · rw [if_pos h, h, Int.mul_zero]; rfl
  · rw [if_neg h]; simp only [off]; rw [Int.sub_mul]
theorem mul_succ {p : Prf} (h : p.Ok) (n : Nat) : (p.mul n).add p = p.mul (n + 1 : Nat) := by
  have ho := off_mul p n
  obtain ⟨a, b, d, e, f, g, i, j, k⟩ := h
  cases n with
  | zero =>
    rw [show p.mul (0 : Nat) = zero from rfl]
    unfold mul
    simp only [Nat.zero_add, Int.natCast_one, Int.sub_self, Int.mul_zero, Int.mul_one]
    refine ext ?_ ?_ ?_ ?_ ?_ <;> simp only [add, zero, off] <;> simp <;> omega
  | succ m =>
    have x1 : ((m + 1 + 1 : Nat) : Int) - 1 = ((m : Int) + 1) := by omega
    have x2 : ((m + 1 : Nat) : Int) - 1 = (m : Int) := by omega
    have x3 : p.off * ((m : Int) + 1) = p.off * m + p.off := by rw [Int.mul_add, Int.mul_one]
    have n0 : ¬ ((m + 1 + 1 : Nat) : Int) = 0 := by omega
    have n1 : ¬ ((m + 1 : Nat) : Int) = 0 := by omega
    have n2 : ¬ ((m + 1 + 1 : Nat) : Int) = 1 := by omega
    have hpos : 0 ≤ p.off → 0 ≤ p.off * (m : Int) := fun h => Int.mul_nonneg h (Int.natCast_nonneg m)
    have hneg : p.off ≤ 0 → p.off * (m : Int) ≤ 0 := fun h => Int.mul_nonpos_of_nonpos_of_nonneg h (Int.natCast_nonneg m)
    have hpos1 : 1 ≤ m → 0 ≤ p.off → p.off ≤ p.off * (m : Int) := fun hm h => by
      have := Int.mul_le_mul_of_nonneg_left (a := 1) (b := (m : Int)) (c := p.off) (by omega) h
      rwa [Int.mul_one] at this
    have y1 : p.puts * ((m + 1 + 1 : Nat) : Int) = p.puts * ((m + 1 : Nat) : Int) + p.puts := by rw [show ((m + 1 + 1 : Nat) : Int) = ((m + 1 : Nat) : Int) + 1 by omega, Int.mul_add, Int.mul_one]
    have y2 : p.takes * ((m + 1 + 1 : Nat) : Int) = p.takes * ((m + 1 : Nat) : Int) + p.takes := by rw [show ((m + 1 + 1 : Nat) : Int) = ((m + 1 : Nat) : Int) + 1 by omega, Int.mul_add, Int.mul_one]
    have y3 : p.off * ((m + 1 : Nat) : Int) = p.off * m + p.off := by rw [show ((m + 1 : Nat) : Int) = (m : Int) + 1 by omega, x3]
    rw [y3] at ho
    have em : p.mul (m + 1 + 1 : Nat) = ⟨p.puts * ((m + 1 + 1 : Nat) : Int), p.takes * ((m + 1 + 1 : Nat) : Int), p.low + min 0 (p.off * m + p.off), p.high + max 0 (p.off * m + p.off), max (max p.fall ((p.high - p.low) - p.off)) ((p.high - p.low) - (p.off * m + p.off))⟩ := by
      unfold mul; simp only [n0, n2, if_false, x1, x3]
    have en : p.mul (m + 1 : Nat) = ⟨p.puts * ((m + 1 : Nat) : Int), p.takes * ((m + 1 : Nat) : Int), p.low + min 0 (p.off * m), p.high + max 0 (p.off * m), if ((m + 1 : Nat) : Int) = 1 then p.fall else max (max p.fall ((p.high - p.low) - p.off)) ((p.high - p.low) - (p.off * m))⟩ := by
      unfold mul; simp only [n1, if_false, x2]
    rw [em]
    unfold add
    rw [ho, en]
    have hz : m = 0 → p.off * (m : Int) = 0 := fun h => by rw [h]; exact Int.mul_zero _
    generalize p.off * (m : Int) = z at *
    generalize p.off = o at *
    refine ext ?_ ?_ ?_ ?_ ?_
    · simp only; omega
    · simp only; omega
    · simp only
      rcases Int.le_total 0 o with q | q
      · have := hpos q; omega
      · have := hneg q; omega
    · simp only
      rcases Int.le_total 0 o with q | q
      · have := hpos q; omega
      · have := hneg q; omega
    · simp only
      by_cases hm : m = 0
      · subst hm
        have z0 : z = 0 := hz rfl
        rw [if_pos (by rfl), z0]
        omega
      · rw [if_neg (by omega)]
        rcases Int.le_total 0 o with q | q
        · have := hpos1 (by omega) q; omega
        · have := hneg q; omega
theorem ok_mul {p : Prf} (h : p.Ok) : ∀ n : Nat, (p.mul n).Ok
  | 0 => ok_zero
  | n + 1 => by rw [← mul_succ h]; exact ok_add (ok_mul h n) h
end Prf
open Prf
def prof (s : List Nat) : Prf := s.foldl pstp zero
theorem prof_ok_from : ∀ (s : List Nat) {p : Prf}, p.Ok → (s.foldl pstp p).Ok
  | [], _, h => h
  | c :: s, _, h => prof_ok_from s (ok_pstp h c)
theorem prof_ok (s : List Nat) : (prof s).Ok := prof_ok_from s ok_zero
theorem foldl_add (p : Prf) : ∀ (s : List Nat) (q : Prf), s.foldl pstp (p.add q) = p.add (s.foldl pstp q)
  | [], _ => rfl
  | c :: s, q => by rw [List.foldl_cons, List.foldl_cons, add_pstp, foldl_add p s]
theorem prof_app (a b : List Nat) : prof (a ++ b) = (prof a).add (prof b) := by
  unfold prof
  rw [List.foldl_append]
  have := foldl_add (a.foldl pstp zero) b zero
  have e : (a.foldl pstp zero).add zero = a.foldl pstp zero := add_zero (prof_ok a)
  rw [e] at this
  exact this
theorem prof_rep (a : List Nat) : ∀ n : Nat, prof (List.replicate n a).flatten = (prof a).mul n
  | 0 => rfl
  | n + 1 => by
    rw [List.replicate_succ', List.flatten_append, prof_app, prof_rep a n, List.flatten_cons, List.flatten_nil, List.append_nil, mul_succ (prof_ok a)]
theorem prof_take (s : List Nat) (k : Nat) (c : Nat) (h : s[k]? = some c) : prof (s.take (k + 1)) = (prof (s.take k)).pstp c := by
  have : s.take (k + 1) = s.take k ++ [c] := by rw [List.take_add_one, h]; rfl
  unfold prof
  rw [this, List.foldl_append]
  rfl
/-- the offset after the first i steps -/
def ofs (s : List Nat) (i : Nat) : Int := (prof (s.take i)).off
theorem low_le (s : List Nat) : ∀ k : Nat, k ≤ s.length → (∀ i, i ≤ k → (prof (s.take k)).low ≤ ofs s i) ∧ ∃ i, i ≤ k ∧ (prof (s.take k)).low = ofs s i
  | 0, _ => ⟨fun i hi => by rw [show i = 0 by omega]; exact Int.le_refl _, 0, Nat.le_refl _, rfl⟩
  | k + 1, h => by
    obtain ⟨h1, j, hj, h2⟩ := low_le s k (by omega)
    obtain ⟨c, hc⟩ : ∃ c, s[k]? = some c := ⟨_, List.getElem?_eq_getElem (by omega)⟩
    have e := prof_take s k c hc
    have eo : ofs s (k + 1) = (prof (s.take k)).off + (if c = 45 then -1 else 1) := by unfold ofs; rw [e]; simp only [pstp, off]; split <;> omega
    have el : (prof (s.take (k + 1))).low = min (prof (s.take k)).low (ofs s (k + 1)) := by rw [e, eo]; rfl
    rw [el]
    refine ⟨fun i hi => ?_, ?_⟩
    · by_cases q : i = k + 1
      · rw [q]; omega
      · have := h1 i (by omega); omega
    · by_cases q : (prof (s.take k)).low ≤ ofs s (k + 1)
      · exact ⟨j, by omega, by omega⟩
      · exact ⟨k + 1, Nat.le_refl _, by omega⟩
theorem high_ge (s : List Nat) : ∀ k : Nat, k ≤ s.length → (∀ i, i ≤ k → ofs s i ≤ (prof (s.take k)).high) ∧ ∃ i, i ≤ k ∧ (prof (s.take k)).high = ofs s i
  | 0, _ => ⟨fun i hi => by rw [show i = 0 by omega]; exact Int.le_refl _, 0, Nat.le_refl _, rfl⟩
  | k + 1, h => by
    obtain ⟨h1, j, hj, h2⟩ := high_ge s k (by omega)
    obtain ⟨c, hc⟩ : ∃ c, s[k]? = some c := ⟨_, List.getElem?_eq_getElem (by omega)⟩
    have e := prof_take s k c hc
    have eo : ofs s (k + 1) = (prof (s.take k)).off + (if c = 45 then -1 else 1) := by unfold ofs; rw [e]; simp only [pstp, off]; split <;> omega
    have el : (prof (s.take (k + 1))).high = max (prof (s.take k)).high (ofs s (k + 1)) := by rw [e, eo]; rfl
    rw [el]
    refine ⟨fun i hi => ?_, ?_⟩
    · by_cases q : i = k + 1
      · rw [q]; omega
      · have := h1 i (by omega); omega
    · by_cases q : ofs s (k + 1) ≤ (prof (s.take k)).high
      · exact ⟨j, by omega, by omega⟩
      · exact ⟨k + 1, Nat.le_refl _, by omega⟩
theorem prof_takes (s : List Nat) : (prof s).takes = (s.count 45 : Nat) ∧ (prof s).puts = (s.length : Int) - (s.count 45 : Nat) := by
  have gen : ∀ (s : List Nat) (p : Prf), (s.foldl pstp p).takes = p.takes + (s.count 45 : Nat) ∧ (s.foldl pstp p).puts = p.puts + (s.length : Int) - (s.count 45 : Nat) := by
    intro s
    induction s with
    | nil => intro p; simp
    | cons c s ih =>
      intro p
      obtain ⟨h1, h2⟩ := ih (p.pstp c)
      rw [List.foldl_cons, h1, h2, List.count_cons, List.length_cons]
      by_cases hc : c = 45
      · simp only [pstp, hc, if_true, beq_self_eq_true]; omega
      · simp only [pstp, hc, if_false, beq_iff_eq]; omega
  have := gen s zero
  simp only [zero, Int.zero_add] at this
  exact this
theorem prof_bound (s : List Nat) : ∀ n : Nat, s.length ≤ n → (prof s).puts ≤ n ∧ (prof s).takes ≤ n ∧ -(n : Int) ≤ (prof s).low ∧ (prof s).high ≤ n ∧ (prof s).fall ≤ 2 * n := by
  intro n hn
  have h1 := prof_takes s
  have h2 := low_le s s.length (Nat.le_refl _)
  have h3 := high_ge s s.length (Nat.le_refl _)
  have h4 := (prof_ok s)
  have hc : s.count 45 ≤ s.length := List.count_le_length
  rw [List.take_length] at h2 h3
  have ob : ∀ i, i ≤ s.length → -(n : Int) ≤ ofs s i ∧ ofs s i ≤ n := fun i hi => by
    have q := prof_takes (s.take i)
    have q2 : (s.take i).count 45 ≤ (s.take i).length := List.count_le_length
    have q3 : (s.take i).length ≤ s.length := by rw [List.length_take]; omega
    unfold ofs off
    rw [q.1, q.2]
    omega
  obtain ⟨i, hi, ei⟩ := h2.2
  obtain ⟨j, hj, ej⟩ := h3.2
  have a1 := ob i hi
  have a2 := ob j hj
  have a3 := h4.f3
  refine ⟨by omega, by omega, by omega, by omega, by omega⟩
end My

namespace My
open PySem L2 TL
theorem vals_take {vs : List V} {us : List Value} (h : Vals vs us) : ∀ n, Vals (vs.take n) (us.take n) := by
  induction h with
  | nil => intro n; cases n <;> exact .nil
  | cons r _ ih =>
    intro n
    cases n with
    | zero => exact .nil
    | succ n => exact .cons r (ih n)
theorem vals_drop {vs : List V} {us : List Value} (h : Vals vs us) : ∀ n, Vals (vs.drop n) (us.drop n) := by
  induction h with
  | nil => intro n; cases n <;> exact .nil
  | cons r h ih =>
    intro n
    cases n with
    | zero => exact .cons r h
    | succ n => exact ih n
theorem kbn_mk {K : PySem.W.Frag} {x qual : Str} {st : Stmt} {f : Addr} {oc : Value} {od an : Option Addr} {osl : Array (Option Value)} {kV doc pm cdv ct : Value} {ps : List Str} {ks : List Str}
    (l : K.lookup f = some ⟨oc, od, .func (PySem.W.fnOf x qual (defArgs st) (defBody st) (defScope st) .none kV doc pm an cdv ct), osl⟩)
    (h : ∀ us ws : List Value, us.length = 1 → ws.length = ks.length → bindArgs (PySem.W.fnOf x qual (defArgs st) (defBody st) (defScope st) .none kV doc pm an cdv ct) ⟨us, ks.zip ws⟩ = pure (ps.zip (us ++ (ws.drop 3 ++ ws.take 3)))) :
    KBn K (PySem.W.fnOf x qual (defArgs st) (defBody st) (defScope st) .none kV doc pm an cdv ct) ps 1 ks (fun us ws => us ++ (ws.drop 3 ++ ws.take 3)) (fun us ws => us ++ (ws.drop 3 ++ ws.take 3)) :=
  ⟨fun s us ws _ l1 l2 => .of_eq (h us ws l1 l2), fun r1 r2 => r1.append ((vals_drop r2 3).append (vals_take r2 3))⟩
/-- what an except clause wishes at all slots -/
def WA (W : WX) : XK := fun cls d H => ∀ σ, W cls d σ H
theorem passAll {X : Cx} {W : WX} (tk : Takes X W) : Passes (L2.CX X.prog X.w) X (WA W) := fun _ σ _ _ e s' I c => tk e s' (XE.of_call I (fun _ _ _ h => h σ) c)
/-- at every slots of the caller's number -/
def WN (n : Nat) (W : WX) : XK := fun cls d H => ∀ σ : L2.St, σ.length = n → W cls d σ H
theorem passLen {X : Cx} {W : WX} {n : Nat} (tk : Takes X W) (hn : X.N.length = n) : Passes (L2.CX X.prog X.w) X (WN n W) := fun _ σ _ _ e s' I c => tk e s' (XE.of_call I (fun _ _ _ h => h σ (by rw [I.len, hn])) c)
theorem len_three {α : Type} {σ : List α} (h : σ.length = 3) : ∃ a b c, σ = [a, b, c] := by
  match σ, h with
  | [a, b, c], _ => exact ⟨a, b, c, rfl⟩
/-- x.replace("-", ""), x.count("-") -/
theorem replL_one (c : Nat) : ∀ l : List Nat, PySem.StrLaws.replL [c] [] l = l.filter (fun x => decide (x ≠ c))
  | [] => PySem.StrLaws.replL_nil
  | x :: l => by
    by_cases h : x = c
    · subst h
      rw [PySem.StrLaws.replL_hit (by simp) (by simp), List.filter_cons, if_neg (by simp)]
      simpa using replL_one x l
    · rw [PySem.StrLaws.replL_miss (by simpa using h), List.filter_cons, if_pos (by simpa using h), replL_one c l]
theorem replace_one (x : Str) : tl (Txt.replace x ("-" : Str) ("" : Str)) = (tl x).filter (fun c => decide (c ≠ 45)) := by
  have h := PySem.StrLaws.replace_list (x := x) (y := ("-" : Str)) (z := ("" : Str)) (by decide +kernel)
  show (Txt.replace x ("-" : Str) ("" : Str)).cps.toList = _
  rw [h, show ("-" : Str).cps.toList = [45] from by decide +kernel, show ("" : Str).cps.toList = [] from by decide +kernel, replL_one]
open Builtin Builtin.Str in
theorem count_one (x : Str) : Txt.count x ("-" : Str) = ((tl x).count 45 : Nat) := by
  have hr := replace_one x
  have hy : (glued ("-" : Str) (partsBetween x (occurrences x ("-" : Str) 0 x.length (x.length + 1)) ("-" : Str).length)).length = x.length := by rw [PySem.StrLaws.glued_between_self]
  have l1 : ("-" : Str).length = 1 := by decide +kernel
  have l0 : ("" : Str).length = 0 := by decide +kernel
  have hc : ((tl x).filter (fun c => decide (c ≠ 45))).length + (tl x).count 45 = (tl x).length := by
    generalize tl x = l
    induction l with
    | nil => rfl
    | cons a l ih =>
      rw [List.filter_cons, List.count_cons, List.length_cons]
      by_cases h : a = 45
      · simp [h] at ih ⊢; omega
      · simp [h] at ih ⊢; omega
  have hx : (tl x).length = x.length := tl_len x
  unfold Txt.count
  have hl := congrArg List.length hr
  rw [tl_len] at hl
  unfold Txt.replace at hl
  rw [l0] at hl
  generalize occurrences x ("-" : Str) 0 x.length (x.length + 1) = occ at *
  cases hoc : occ with
  | nil =>
    rw [hoc] at hl
    simp only [List.isEmpty_nil, Bool.true_or, if_true] at hl
    simp only [List.length_nil]
    omega
  | cons a r =>
    rw [hoc] at hl hy
    rw [if_neg (by rw [l1]; simp)] at hl
    rw [size_glued, length_partsBetween] at hl hy
    rw [l1] at hl hy
    rw [l0] at hl
    simp only [Nat.add_sub_cancel, Nat.mul_zero, Nat.mul_one] at hl hy
    omega
end My

namespace My
open PySem L2 TL
/-! ### instances' fields -/
theorem lk_cons {k m : Str} {v : V} {r : List (Str × V)} : List.lookup m ((k, v) :: r) = if m = k then some v else r.lookup m := by
  by_cases h : m = k
  · have hb : (m == k) = true := beq_iff_eq.mpr h
    simp only [List.lookup, hb, if_pos h]
  · have hb : (m == k) = false := beq_eq_false_iff_ne.mpr h
    simp only [List.lookup, hb, if_neg h]
theorem putF_len (f : Str) (v : V) : ∀ fs : List (Str × V), (putF f v fs).length ≤ fs.length + 1
  | [] => Nat.le_refl _
  | (g, x) :: r => by
    show (if g = f then (g, v) :: r else (g, x) :: putF f v r).length ≤ _
    split
    · rw [List.length_cons, List.length_cons]; omega
    · rw [List.length_cons, List.length_cons]; have := putF_len f v r; omega
theorem rd_fld {K : PySem.W.Frag} {H : Hp} {x C dx : Addr} {fs : List (Str × V)} {f : Str} {v : V} {Q : V → Prop} (hx : H x = some (.ins C dx fs)) (cl : Cls K C) (n : NoAttr K C f) (l : fs.lookup f = some v) (q : Q v) :
    ∃ C' dx' fs', H x = some (.ins C' dx' fs') ∧ Cls K C' ∧ NoAttr K C' f ∧ ∃ y, List.lookup f fs' = some y ∧ Q y := ⟨_, _, _, hx, cl, n, _, l, q⟩
/-! ### the fields of a profile -/
def pfl (p : Prf) : List (Str × V) := [("_puts", .int p.puts), ("_takes", .int p.takes), ("_low", .int p.low), ("_high", .int p.high), ("_fall", .int p.fall)]
theorem pfl_put (a b l h f : Int) : putF "_fall" (.int f) (putF "_high" (.int h) (putF "_low" (.int l) (putF "_takes" (.int b) (putF "_puts" (.int a) [])))) = pfl ⟨a, b, l, h, f⟩ := by
  have h1 : ¬ ("_puts" : Str) = "_takes" := by decide +kernel
  have h2 : ¬ ("_puts" : Str) = "_low" := by decide +kernel
  have h3 : ¬ ("_puts" : Str) = "_high" := by decide +kernel
  have h4 : ¬ ("_puts" : Str) = "_fall" := by decide +kernel
  have h5 : ¬ ("_takes" : Str) = "_low" := by decide +kernel
  have h6 : ¬ ("_takes" : Str) = "_high" := by decide +kernel
  have h7 : ¬ ("_takes" : Str) = "_fall" := by decide +kernel
  have h8 : ¬ ("_low" : Str) = "_high" := by decide +kernel
  have h9 : ¬ ("_low" : Str) = "_fall" := by decide +kernel
  have h10 : ¬ ("_high" : Str) = "_fall" := by decide +kernel
  simp only [putF, h1, h2, h3, h4, h5, h6, h7, h8, h9, h10, if_false, pfl]
section
variable (p : Prf)
theorem pfl_puts : (pfl p).lookup ("_puts" : Str) = some (.int p.puts) := by unfold pfl; rw [lk_cons, if_pos rfl]
theorem pfl_takes : (pfl p).lookup ("_takes" : Str) = some (.int p.takes) := by unfold pfl; rw [lk_cons, if_neg (by decide +kernel), lk_cons, if_pos rfl]
theorem pfl_low : (pfl p).lookup ("_low" : Str) = some (.int p.low) := by unfold pfl; rw [lk_cons, if_neg (by decide +kernel), lk_cons, if_neg (by decide +kernel), lk_cons, if_pos rfl]
theorem pfl_high : (pfl p).lookup ("_high" : Str) = some (.int p.high) := by unfold pfl; rw [lk_cons, if_neg (by decide +kernel), lk_cons, if_neg (by decide +kernel), lk_cons, if_neg (by decide +kernel), lk_cons, if_pos rfl]
theorem pfl_fall : (pfl p).lookup ("_fall" : Str) = some (.int p.fall) := by unfold pfl; rw [lk_cons, if_neg (by decide +kernel), lk_cons, if_neg (by decide +kernel), lk_cons, if_neg (by decide +kernel), lk_cons, if_neg (by decide +kernel), lk_cons, if_pos rfl]
theorem pfl_no {m : Str} (h1 : ¬ m = "_puts") (h2 : ¬ m = "_takes") (h3 : ¬ m = "_low") (h4 : ¬ m = "_high") (h5 : ¬ m = "_fall") : (pfl p).lookup m = none := by
  unfold pfl; rw [lk_cons, if_neg h1, lk_cons, if_neg h2, lk_cons, if_neg h3, lk_cons, if_neg h4, lk_cons, if_neg h5]; rfl
end
def ProfAt (C : Addr) (H : Hp) (x : Addr) (p : Prf) : Prop := ∃ dx, H x = some (.ins C dx (pfl p))
theorem ProfAt.mono {C : Addr} {H H' : Hp} (s : Same H H') {x : Addr} {p : Prf} (h : ProfAt C H x p) : ProfAt C H' x p := let ⟨dx, e⟩ := h; ⟨dx, s _ _ e⟩
theorem prf_eq_iff (p q : Prf) : p = q ↔ p.puts = q.puts ∧ p.takes = q.takes ∧ p.low = q.low ∧ p.high = q.high ∧ p.fall = q.fall :=
  ⟨fun h => by subst h; exact ⟨rfl, rfl, rfl, rfl, rfl⟩, fun ⟨h1, h2, h3, h4, h5⟩ => Prf.ext h1 h2 h3 h4 h5⟩
instance prfDec : DecidableEq Prf := fun p q => decidable_of_iff _ (prf_eq_iff p q).symm
def Prf.bnd (p : Prf) (k : Nat) : Prop := p.puts.natAbs < 2 ^ k ∧ p.takes.natAbs < 2 ^ k ∧ p.low.natAbs < 2 ^ k ∧ p.high.natAbs < 2 ^ k ∧ p.fall.natAbs < 2 ^ k
theorem Prf.bnd_off {p : Prf} {k : Nat} (h : p.bnd k) : p.off.natAbs < 2 ^ (k + 1) := by
  obtain ⟨h1, h2, _⟩ := h
  unfold Prf.off
  rw [Nat.pow_succ]; omega
/-! ### loops -/
/-- [e for x in a tuple] -/
theorem lcT {K : PySem.W.Frag} {tl : TE} {g : TG} {tt : TT} {te : TE} {vs : List Nat} {σ : L2.St} {H : Hp} {Q : VK}
    (h : ∀ R : VK, (∀ (a : Addr) (xs : List V) (H1 : Hp), SqT K H1 a xs → (∀ D, H1 D = none → ∃ Pv : Nat → Hp → Prop, Pv 0 (upd H1 D (.lst [])) ∧ (∀ i H, i ≤ xs.length → Pv i H → SqT K H a xs) ∧
      (∀ i x H, xs[i]? = some x → Pv i H → g x (wipe σ vs) H fun σ2 H2 => wipe σ2 vs = wipe σ vs ∧ tt σ2 H2 fun b H3 =>
        if b = true then te σ2 H3 fun y H4 => ∃ acc, H4 D = some (.lst acc) ∧ acc.length < sizeLine ∧ Pv (i + 1) (upd H4 D (.lst (acc ++ [y]))) else Pv (i + 1) H3) ∧ ∀ H, Pv xs.length H → Q (.ref D) H) → R (.ref a) H1) → tl σ H R) : tLc (iTup K tl) g tt te vs σ H Q :=
  h _ fun a xs H1 hs hk => ⟨a, rfl, ⟨xs, hs⟩, fun D hD => by
    obtain ⟨Pv, h0, hl, hst, hd⟩ := hk D hD
    exact lc_tup (K := K) (a := a) (xs := xs) Pv h0 hl hst hd⟩
/-- for c in a text -/
theorem forS {te : TE} {g : TG} {tb : TS} {D : Ends} {σ : L2.St} {H : Hp}
    (h : ∀ R : VK, (∀ (x : Str) (Pv : Nat → L2.St → Hp → Prop) (H1 : Hp), Pv 0 σ H1 →
      (∀ i c σ H, (tl x)[i]? = some c → Pv i σ H → g (.str ⟨#[c]⟩) σ H fun σ2 H2 => tb { D with nx := Pv (i + 1), ct := Pv (i + 1), bk := D.nx } σ2 H2) → (∀ σ H, Pv (tl x).length σ H → D.nx σ H) → R (.str x) H1) → te σ H R) : tFor (iStr te) g tb D σ H :=
  h _ fun x Pv H1 h0 hs hd => ⟨x, rfl, by
    have hsz : (tl x).length = x.cps.size := Array.length_toList
    refine ⟨fun i m σ H => m = (tl x).length - i ∧ i ≤ (tl x).length ∧ Pv i σ H, ⟨(tl x).length, by simp, Nat.zero_le _, h0⟩, ?_⟩
    rintro i m σ H ⟨rfl, hi, p⟩
    by_cases hlt : i < (tl x).length
    · refine .inr ⟨by show i < x.cps.size; omega, Pv (i + 1), fun σ' H' p' => ⟨(tl x).length - (i + 1), by omega, rfl, hlt, p'⟩, fun v H' y => ?_⟩
      obtain ⟨e, c, hc, ev⟩ := y
      subst e
      subst ev
      exact hs i c σ _ (by show x.cps.toList[i]? = some c; rw [Array.getElem?_toList]; exact hc) p
    · have e : i = (tl x).length := by omega
      subst e
      exact .inl ⟨by show x.cps.size ≤ _; omega, hd σ H p⟩⟩
/-! ### isinstance of an own class -/
theorem isi_own {K : PySem.W.Frag} {H : Hp} {x : V} {C : Addr} {t : Value} {b : Bool} {Q : VK} (h1 : TyX K H x t) (h2 : PySem.W.kitOne K t (.ref C) = some b) (q : Q (.bl b) H) : rIsi K [x, .ref C] H Q :=
  ⟨x, .ref C, t, _, _, rfl, .own C, h1, h2, q⟩
theorem kit_self {K : PySem.W.Frag} {C : Addr} : PySem.W.kitOne K (.ref C) (.ref C) = some true := if_pos (by simp)
theorem kit_not {K : PySem.W.Frag} {C : Addr} {T : String} (h1 : PySem.W.isClsIn K C = true) (h2 : PySem.W.typeIn K (.ref C) = some (.type "type")) (h3 : PySem.W.subIn K (.type T) (.ref C) = some false) : PySem.W.kitOne K (.type T) (.ref C) = some false := by
  unfold PySem.W.kitOne
  rw [if_neg (by simp)]
  show (if ((PySem.W.clsIn K C).isSome && PySem.W.typeIn K (.ref C) == some (.type "type")) = true then PySem.W.subIn K (.type T) (.ref C) else none) = some false
  have h1' : (PySem.W.clsIn K C).isSome = true := h1
  rw [if_pos (by rw [h1', h2]; rfl)]
  exact h3
theorem notf_self {K : PySem.W.Frag} {C : Addr} : PySem.W.notFirst K C (.ref C) = true := by simp [PySem.W.notFirst]
theorem notf_ty {K : PySem.W.Frag} {C : Addr} {T : String} (h : PySem.W.subIn K (.type T) (.ref C) = some false) : PySem.W.notFirst K C (.type T) = true := by
  unfold PySem.W.notFirst; rw [h]; simp
theorem eqL_ints : ∀ (bs cs : List Int), eqL (bs.map V.int) (cs.map V.int) = decide (bs = cs)
  | [], [] => by simp [eqL, PyData.eqvAll]
  | [], c :: cs => by simp [eqL, PyData.eqvAll]
  | b :: bs, [] => by simp [eqL, PyData.eqvAll]
  | b :: bs, c :: cs => by
    have ih := eqL_ints bs cs
    unfold eqL at ih ⊢
    rw [List.map_cons, List.map_cons, List.map_cons, List.map_cons, PyData.eqvAll, ih]
    show ((PyData.eqv (.int b) (.int c)) && _) = _
    rw [PyData.eqv]
    by_cases h : b = c
    · subst h; simp
    · simp [h]
theorem ne_ints {K : PySem.W.Frag} {H : Hp} {a b : Addr} {ns ms : List Int} {Q : VK} (ha : SqL K H a (ns.map V.int)) (hb : SqL K H b (ms.map V.int)) (q : Q (.bl (!decide (ns = ms))) H) : rNeD K (.ref a) (.ref b) H Q :=
  ne_lists ha hb (ok_ints ns) (ok_ints ms) (by rw [eqL_ints]; exact q)
theorem made {H : Hp} {C x dx : Addr} (hx : H x = none) (hd : H dx = none) : Same H (upd (upd H dx (.own x)) x (.ins C dx [])) := fun b o e => by
  rw [upd_ne (ne_of_none e hx), upd_ne (ne_of_none e hd)]; exact e
end My

namespace My
open PySem PySem.Spec PyProof.Rows L2
/-! ### enumerate(text) -/
def Itse (x : Str) : It :=
  ⟨fun i _ => i < x.cps.size, fun i H v H' => ∃ T c, v = .ref T ∧ H T = none ∧ H' = upd H T (.tup [.int (i : Nat), .str ⟨#[c]⟩]) ∧ x.cps[i]? = some c, fun i _ => x.cps.size ≤ i⟩
theorem turn_enumS {P : Program} {w : World} {K : PySem.W.Frag} {elts : List Expr} {kk : Nat} {tpos : Pos} (x : Str) (t : Tok) (e it : Addr) :
    Turn P w K (.Tuple elts kk tpos) (Itse x) [e, it] e (fun i h => (∃ old, IsEnum h e it ((i : Nat) : Int) old) ∧ h.IsStrIter it (strIterType x) x t i ∧ e ≠ it ∧ i ≤ x.cps.size) where
  mem := by simp
  obj := fun i h st b hb => by
    obtain ⟨⟨old, he⟩, ⟨o, ho, hc, hd⟩, _⟩ := st
    have e' : b = e ∨ b = it := by simpa using hb
    rcases e' with z | z
    · rw [z]; exact ⟨_, he, fun v q => nomatch q⟩
    · rw [z]; exact ⟨o, ho, fun v q => by rw [hd] at q; cases q⟩
  keep := fun i h h' st k => let ⟨⟨old, he⟩, ⟨o, ho, r⟩, hne, hi⟩ := st; ⟨⟨old, k e (by simp) _ he⟩, ⟨o, k it (by simp) o ho, r⟩, hne, hi⟩
  item := by
    intro X hP hw hK hc i pins s σ H E I hf st hg
    subst hP hw hK
    obtain ⟨⟨old, he⟩, hit, hne, _⟩ := st
    have hel : e < s.heap.objs.size := Heap.lt_size he
    have hil : it < s.heap.objs.size := by obtain ⟨_, q, _⟩ := hit; exact Heap.lt_size q
    refine wpAny_pyNext_enum_itemD (Draws.text (A := X.A.in1) (I.ok.hd hc) it x t) he hit hg hne (by simpa using hne) fun v h' tk hP ho hit' hT hsz hk => ?_
    obtain ⟨c, u, hcx, rfl⟩ := hP
    refine ⟨_, rfl, wpAny_letOwnedTupleGo_enum (s := { s with heap := h', toks := tk + 1 }) ho fun h'' he' sb => ?_⟩
    have hT2 : h''.get? s.heap.objs.size = some { cls := .type "tuple", data := .seq #[.int i tk, .str ⟨#[c]⟩ u] } := (sb.2 _ (Nat.ne_of_gt hel)).trans hT
    have new : ObjOk X.prog X.w (upd H s.heap.objs.size (.tup [.int (i : Nat), .str ⟨#[c]⟩])) h'' s.heap.objs.size (.tup [.int (i : Nat), .str ⟨#[c]⟩]) :=
      ⟨by show 2 ≤ sizeLine; decide, [.int i tk, .str ⟨#[c]⟩ u], .cons ⟨_, rfl⟩ (.cons ⟨_, rfl⟩ .nil), ⟨_, hT2, rfl, _, rfl⟩⟩
    have I1 : Inv X pins σ (upd H s.heap.objs.size (.tup [.int (i : Nat), .str ⟨#[c]⟩])) { s with heap := h'', toks := tk + 1 } :=
      I.turnedNew (ch := [e, it]) (fun b ob hb q => (sb.2 b (fun z => hb (by simp [z]))).trans (hk b ob (fun z => hb (by simp [z])) (fun z => hb (by simp [z])) q)) hf (Nat.le_refl _) new
    refine ⟨.ref s.heap.objs.size, _, I1, rfl, ⟨_, c, rfl, I.hok.fresh (Nat.le_refl _), rfl, hcx⟩, ⟨⟨.str ⟨#[c]⟩ u, ?_⟩, ?_, hne, hg⟩, fun b hb => ?_⟩
    · have e1 : ((i + 1 : Nat) : Int) = (i : Int) + 1 := by omega
      rw [e1]; exact he'
    · obtain ⟨o, q, r⟩ := hit'
      exact ⟨o, (sb.2 it (Ne.symm hne)).trans q, r⟩
    · have hb' : b < s.heap.objs.size := by
        have e' : b = e ∨ b = it := by simpa using hb
        rcases e' with z | z
        · rw [z]; exact hel
        · rw [z]; exact hil
      rw [upd_ne (Nat.ne_of_lt hb')]
      exact (hf b hb).1
  done := by
    intro X hP hw hK hc i pins s σ H E I hf st hg
    subst hP hw hK
    obtain ⟨⟨old, he⟩, hit, hne, hi⟩ := st
    have hi' : i = x.cps.size := Nat.le_antisymm hi hg
    rw [hi'] at hit he
    obtain ⟨f0, f1, f2, f3, f4, f5⟩ := hf it (by simp)
    exact wpAny_pyNext_enum_endD (Draws.text (A := X.A.in1) (I.ok.hd hc) it x t) he hit fun h' eb => ⟨rfl, I.turned (t' := s.toks) (fun b o hb q => eb b o hb q) f0 f1 f3 f4 f5⟩
  self := fun A i s Q E st h => let ⟨⟨_, he⟩, _⟩ := st; wpAny_pyIter_enum he h
def iEnumS (ta : TA) : TI := fun σ H R => ta σ H fun vs H1 => ∃ x, vs = [.str x] ∧ R (Itse x) H1
theorem pi_enumS {X : Cx} {e : Expr} {ta : TA} {p pos tpos : Pos} {elts : List Expr} {kk : Nat} (hg : Gl X "enumerate") (hm : X.mg "enumerate" = none) (ha : PA X [e] ta) (hs : starEach [e] X.env = [(false, eval e X.env)] := by rfl) :
    PI X (.Tuple elts kk tpos) (.Call (.Name "enumerate" p) [e] [] pos) (iEnumS ta) := by
  refine ⟨fun pins s σ H R I h => ?_⟩
  refine Call_ (ld_blt I hg hm boot_enumerate (PyProof.Rows.callWith_type1 (thn (ha.run pos pins s σ H _ I h) fun us s1 ⟨vs, H1, I1, r1, q1⟩ => ?_) hs rfl))
  obtain ⟨x, ex, q⟩ := q1
  subst ex
  cases r1 with
  | cons r rr =>
    cases rr
    obtain ⟨t, rfl⟩ := r
    refine call_enumerate_str fun h' he hit hsz hk => wpAny_pyIter_enum he ?_
    have I2 : Inv X pins σ H1 { s1 with heap := h' } := I1.kept (t' := s1.toks) hk
    refine ⟨s1.heap.objs.size + 1, [s1.heap.objs.size + 1, s1.heap.objs.size], _, _, H1, rfl, I2, turn_enumS x t (s1.heap.objs.size + 1) s1.heap.objs.size, ⟨⟨.none, he⟩, hit, Nat.succ_ne_self _, Nat.zero_le _⟩, fun b hb => ?_, q⟩
    have e' : b = s1.heap.objs.size + 1 ∨ b = s1.heap.objs.size := by simpa using hb
    have hle : s1.heap.objs.size ≤ b := by
      rcases e' with z | z
      · rw [z]; exact Nat.le_add_right _ _
      · rw [z]; exact Nat.le_refl _
    exact I1.fpOk hle (I1.hok.fresh hle)
/-- for i, c in enumerate(a text) -/
theorem forES {ta : TA} {g : TG} {tb : TS} {D : Ends} {σ : L2.St} {H : Hp}
    (h : ∀ R : List V → Hp → Prop, (∀ (x : Str) (Pv : Nat → L2.St → Hp → Prop) (H1 : Hp), Pv 0 σ H1 →
      (∀ i c σ H T, (TL.tl x)[i]? = some c → Pv i σ H → H T = none → g (.ref T) σ (upd H T (.tup [.int (i : Nat), .str ⟨#[c]⟩])) fun σ2 H2 => tb { D with nx := Pv (i + 1), ct := Pv (i + 1), bk := D.nx } σ2 H2) → (∀ σ H, Pv (TL.tl x).length σ H → D.nx σ H) → R [.str x] H1) → ta σ H R) : tFor (iEnumS ta) g tb D σ H :=
  h _ fun x Pv H1 h0 hs hd => ⟨x, rfl, by
    have hsz : (TL.tl x).length = x.cps.size := Array.length_toList
    refine ⟨fun i m σ H => m = (TL.tl x).length - i ∧ i ≤ (TL.tl x).length ∧ Pv i σ H, ⟨(TL.tl x).length, by simp, Nat.zero_le _, h0⟩, ?_⟩
    rintro i m σ H ⟨rfl, hi, p⟩
    by_cases hlt : i < (TL.tl x).length
    · refine .inr ⟨by show i < x.cps.size; omega, Pv (i + 1), fun σ' H' p' => ⟨(TL.tl x).length - (i + 1), by omega, rfl, hlt, p'⟩, fun v H' y => ?_⟩
      obtain ⟨T, c, ev, hT, eH, hc⟩ := y
      subst ev
      subst eH
      exact hs i c σ H T (by show x.cps.toList[i]? = some c; rw [Array.getElem?_toList]; exact hc) p hT
    · have e : i = (TL.tl x).length := by omega
      subst e
      exact .inl ⟨by show x.cps.size ≤ _; omega, hd σ H p⟩⟩
end My

namespace My
open PySem
/-! ### running by lengths -/
/-- one step: the length and the number of lost letters -/
def rstp (C : Int) (strict : Bool) (st : Option (Int × Int)) (c : Nat) : Option (Int × Int) :=
  match st with
  | none => none
  | some (n, l) =>
    if c = 45 then (if n ≤ 0 then none else some (n - 1, l))
    else if n < C then some (n + 1, l) else if strict = true then none else some (n, l + 1)
def rrun (C : Int) (strict : Bool) (n : Int) (s : List Nat) : Option (Int × Int) := s.foldl (rstp C strict) (some (n, 0))
def rgood (C : Int) (strict : Bool) (n : Int) (p : Prf) : Bool := decide (p.fall ≤ C) && decide (-p.low ≤ n) && (!strict || decide (n + p.high ≤ C))
def rval (C : Int) (n : Int) (p : Prf) : Int × Int := (min (n + p.off) (C + p.off - p.high), max 0 (n + p.high - C))
theorem rrel {C n : Int} {strict : Bool} (h0 : 0 ≤ n) (hC : n ≤ C) : ∀ (s : List Nat) (p : Prf), p.Ok →
    s.foldl (rstp C strict) (if rgood C strict n p = true then some (rval C n p) else none) = if rgood C strict n (s.foldl Prf.pstp p) = true then some (rval C n (s.foldl Prf.pstp p)) else none
  | [], _, _ => rfl
  | c :: s, p, ok => by
    rw [List.foldl_cons, List.foldl_cons, ← rrel h0 hC s (p.pstp c) (Prf.ok_pstp ok c)]
    congr 1
    have e1 : (p.pstp c).off = p.off + (if c = 45 then -1 else 1) := by simp only [Prf.pstp, Prf.off]; split <;> omega
    have e2 : (p.pstp c).low = min p.low (p.off + (if c = 45 then -1 else 1)) := rfl
    have e3 : (p.pstp c).high = max p.high (p.off + (if c = 45 then -1 else 1)) := rfl
    have e4 : (p.pstp c).fall = max p.fall (max p.high (p.off + (if c = 45 then -1 else 1)) - (p.off + (if c = 45 then -1 else 1))) := rfl
    obtain ⟨a1, a2, a3, a4, a5, a6, a7, a8, a9⟩ := ok
    unfold rgood rval
    rw [e1, e2, e3, e4]
    generalize p.off = o at *
    generalize p.low = lo at *
    generalize p.high = hi at *
    generalize p.fall = fa at *
    clear e1 e2 e3 e4
    by_cases hc : c = 45
    · simp only [hc, if_true]
      by_cases g : (decide (fa ≤ C) && decide (-lo ≤ n) && (!strict || decide (n + hi ≤ C))) = true
      · rw [if_pos g]
        simp only [Bool.and_eq_true, decide_eq_true_eq, Bool.or_eq_true] at g
        unfold rstp
        simp only [if_true]
        by_cases z : min (n + o) (C + o - hi) ≤ 0
        · rw [if_pos z, if_neg]
          simp only [Bool.and_eq_true, decide_eq_true_eq, Bool.or_eq_true]
          omega
        · rw [if_neg z, if_pos]
          · congr 1
            refine Prod.ext ?_ ?_
            · show min (n + o) (C + o - hi) - 1 = _
              omega
            · show max 0 (n + hi - C) = _
              omega
          · simp only [Bool.and_eq_true, decide_eq_true_eq, Bool.or_eq_true]
            refine ⟨⟨by omega, by omega⟩, ?_⟩
            rcases g.2 with q | q
            · exact .inl q
            · exact .inr (by omega)
      · rw [if_neg g, if_neg]
        · rfl
        · intro g2
          apply g
          simp only [Bool.and_eq_true, decide_eq_true_eq, Bool.or_eq_true] at g2 ⊢
          refine ⟨⟨by omega, by omega⟩, ?_⟩
          rcases g2.2 with q | q
          · exact .inl q
          · exact .inr (by omega)
    · simp only [hc, if_false]
      by_cases g : (decide (fa ≤ C) && decide (-lo ≤ n) && (!strict || decide (n + hi ≤ C))) = true
      · rw [if_pos g]
        simp only [Bool.and_eq_true, decide_eq_true_eq, Bool.or_eq_true] at g
        unfold rstp
        simp only [hc, if_false]
        by_cases z : min (n + o) (C + o - hi) < C
        · rw [if_pos z, if_pos]
          · congr 1
            refine Prod.ext ?_ ?_
            · show min (n + o) (C + o - hi) + 1 = _
              omega
            · show max 0 (n + hi - C) = _
              omega
          · simp only [Bool.and_eq_true, decide_eq_true_eq, Bool.or_eq_true]
            refine ⟨⟨by omega, by omega⟩, ?_⟩
            rcases g.2 with q | q
            · exact .inl q
            · exact .inr (by omega)
        · rw [if_neg z]
          cases strict with
          | true =>
            rw [if_pos rfl, if_neg]
            simp only [Bool.and_eq_true, decide_eq_true_eq, Bool.not_true, Bool.false_eq_true, false_or, Bool.or_eq_true]
            simp only [Bool.not_true, Bool.false_eq_true, false_or] at g
            omega
          | false =>
            rw [if_neg (by decide), if_pos]
            · congr 1
              refine Prod.ext ?_ ?_
              · show min (n + o) (C + o - hi) = _
                omega
              · show max 0 (n + hi - C) + 1 = _
                omega
            · simp only [Bool.and_eq_true, decide_eq_true_eq, Bool.or_eq_true]
              exact ⟨⟨by omega, by omega⟩, .inl rfl⟩
      · rw [if_neg g, if_neg]
        · rfl
        · intro g2
          apply g
          simp only [Bool.and_eq_true, decide_eq_true_eq, Bool.or_eq_true] at g2 ⊢
          refine ⟨⟨by omega, by omega⟩, ?_⟩
          rcases g2.2 with q | q
          · exact .inl q
          · exact .inr (by omega)
theorem rrun_is {C n : Int} {strict : Bool} (h0 : 0 ≤ n) (hC : n ≤ C) (s : List Nat) : rrun C strict n s = if rgood C strict n (prof s) = true then some (rval C n (prof s)) else none := by
  have := rrel (strict := strict) h0 hC s Prf.zero Prf.ok_zero
  have e : (if rgood C strict n Prf.zero = true then some (rval C n Prf.zero) else none) = some (n, 0) := by
    rw [if_pos]
    · unfold rval Prf.zero Prf.off
      congr 1
      refine Prod.ext ?_ ?_
      · show min (n + (0 - 0)) (C + (0 - 0) - 0) = n
        omega
      · show max 0 (n + 0 - C) = 0
        omega
    · unfold rgood Prf.zero
      simp only [Bool.and_eq_true, decide_eq_true_eq, Bool.or_eq_true]
      refine ⟨⟨by omega, by omega⟩, ?_⟩
      right; omega
  rw [e] at this
  exact this
theorem rrun_take (C : Int) (strict : Bool) (n : Int) (s : List Nat) (k c : Nat) (h : s[k]? = some c) : rrun C strict n (s.take (k + 1)) = rstp C strict (rrun C strict n (s.take k)) c := by
  have : s.take (k + 1) = s.take k ++ [c] := by rw [List.take_add_one, h]; rfl
  unfold rrun
  rw [this, List.foldl_append]
  rfl
theorem rrun_none {C : Int} {strict : Bool} {n : Int} {s : List Nat} {k : Nat} (h : rrun C strict n (s.take k) = none) : rrun C strict n s = none := by
  have e : s = s.take k ++ s.drop k := (List.take_append_drop k s).symm
  have go : ∀ l : List Nat, l.foldl (rstp C strict) none = none := by
    intro l
    induction l with
    | nil => rfl
    | cons c l ih => rw [List.foldl_cons]; exact ih
  unfold rrun at h ⊢
  rw [e, List.foldl_append, h, go]
end My

/-! ### own exceptions whose __init__ says super().__init__('..') and stores one argument in a field -/
namespace PySem
namespace SupX
open PySem.W PySem.Calls PyProof.Rows PySem.HandSPX Builtin Builtin.ObjectAttr
section
variable {prog : Program} {w : World} {A : Around} {E : Value → Shared → Prop} {R : Result → Shared → Prop} {hp : Heap} {g : Array GenState} {d : Drawn} {t : Nat} {os : OsState}
/-- the wrapper called: the args are laid anew -/
theorem call_mw {B i newId : String} {bmB : List Value} {nm q : Str} {C N u e t0 : Addr} {bs bm : List Value} {hdct : Bool} {sn : List Str} {sub : List Value} {ab : Bool} {col : Option Bool} {dd : Option Addr} {k0 k1 k2 k3 k5 : Option Value} {rest : List Value} {Q : Value → Shared → Prop}
    (FB : ExcBaseFacts B newId i bmB) (hC : hp.get? C = some (excClassObj nm q C N bs bm hdct sn sub ab col dd k0 k1 k2 k3 k5 newId)) (he : hp.get? e = some (excO C t0)) (hu : hp.get? u = some (kxs_mw i e)) (hz : rest.length ≤ sizeLine)
    (hq : ∀ h' t1, (∀ b o, b ≠ e → hp.get? b = some o → h'.get? b = some o) → h'.get? e = some (excO C t1) → Q .none ⟨h', g, d, t, os⟩) :
    wpAny (model prog w) A (call (.ref u) rest) Q E ⟨hp, g, d, t, os⟩ := by
  refine wpAny_call (codeAny_of_tree ?_)
  show wpAny _ A.in1 (callAny (.ref u) ⟨rest, []⟩) _ _ _
  simp only [callAny]
  refine wpAny_bind (wpAny_load hu ?_)
  simp only [kxs_mw, show (Value.type "method-wrapper" == Value.type "method" || Value.type "method-wrapper" == Value.type "builtin_function_or_method" || Value.type "method-wrapper" == Value.type "method-wrapper") = true by decide, if_true]
  refine KFB.if_so (by decide) ?_
  refine wpAny_bind (check_bound_init FB.toExcCallFacts hC he rfl ?_)
  refine wpAny_bind (wpAny_pure (wpAny_pure ?_))
  refine ⟨plainId_quiet FB.init.plain _, codeAny_builtin FB.initEntry ?_⟩
  exact exc_init_tree (cls := .ref C) (t0 := t0) (dv := none) (c2 := .none) (c3 := .none) (b4 := .bool false) he hz fun h' k e' _ => hq h' _ k e'
/-- self.name = v on an exception that has no dict yet, any built-in base -/
theorem osa_new {B : String} {bmB : List Value} {K : W.Frag} {name : Str} {tk : Tok} {v : Value} {x C : Addr} {fv : Array Value} {cd : ClassData} {l : List Value} (SF : StoreFacts B bmB "object.__setattr__" "object")
    (X : K.In hp) (hx : hp.get? x = some { cls := .ref C, data := .fields fv }) (hcd : W.clsIn K C = some cd) (hm : cd.mro = .ref C :: l) (ht : excTail bmB l = true) (hh : cd.hasDict = true) (ha : W.findIn K (.ref C) name = some none)
    (hq : ∀ h' tk' dx, (∀ b o, b ≠ x → hp.get? b = some o → h'.get? b = some o) → hp.objs.size ≤ dx → dx ≠ x → h'.get? x = some { cls := .ref C, dict := some dx, data := .fields fv } →
      h'.Ns1 dx (fun y => if y = name then some v else none) → R (.ok (.ret .none)) ⟨h', g, d, tk', os⟩) :
    codeAny (model prog w) A (.call (.builtin "object.__setattr__") ⟨[.ref x, .str name tk, v], []⟩) R ⟨hp, g, d, t, os⟩ := by
  have I : W.InstAt hp x { cls := .ref C, data := .fields fv } C none := ⟨hx, rfl, rfl, trivial⟩
  have SO := F.store_object
  have hob : cd.mro.contains (.type "object") = true := by
    rw [hm, List.contains_cons, excTail_contains "object" l ht, SF.hasOwner, Bool.or_true]
  have hxs : x ≠ hp.objs.size := Nat.ne_of_lt (Heap.lt_size hx)
  have sub : W.Looks (model prog w) hp (isInstance (.ref x) (.type "object")) true := I.type.andThen (W.looks_mroIn X (by unfold W.mroIn; rw [hcd, Option.bind_some, if_neg (by rw [hm]; exact Bool.false_ne_true), hob]))
  refine codeAny_call_builtin SO.slot.plain SO.entry (@W.check_slot (model prog w) _ _ ⟨hp, g, d, t, os⟩ "object.__setattr__" "object" "__setattr__" (.ref x) [.str name tk, v] [] _ SO.kind SO.split sub (SO.args (.ref x) (.str name tk) v) ?_)
  have hmr : W.Looks (model prog w) hp (mroOf (.ref C)) cd.mro := (W.looks_clsIn X hcd).andThen .now
  have L3 : W.Looks (model prog w) hp (storeTaker? none) none := .now
  have hcls : W.Looks (model prog w) hp (classData C) cd := W.looks_clsIn X hcd
  have hpass : refuseLoop (.ref x) "__setattr__" cd.mro = pure () := by
    rw [hm, refuseLoop_ref]
    exact excTail_pass _ (SF.passes _) l ht
  rw [W.osa_eq, refuse_eq]
  refine wpAny_bind (wpAny_bind (I.type.at (wpAny_bind (hmr.at ?_))))
  rw [hpass]
  refine wpAny_pure (wpAny_bind (I.type.at (wpAny_bind ((W.looks_findIn X ha).at (wpAny_bind (L3.at ?_))))))
  show wpAny _ _ (storeInOwnDict (.ref x) (.ref C) (.str name tk) name v false) _ _ _
  obtain ⟨nm, bs, mro, ns, qn, hd, sn, sb, ab, col, del⟩ := cd
  dsimp only at hh
  subst hh
  unfold storeInOwnDict ownDictForStores
  repeat (first | with_reducible refine store_in_new ?_ ?_ | with_reducible refine wpAny_loadPart_at hx ?_ | with_reducible refine hcls.at ?_ | wp_step)
  · exact ⟨_, #[], _, (Heap.get?_update_ne _ _ _ _ hxs.symm).trans (Heap.get?_push_at rfl rfl), rfl, fun e he => absurd he (by simp), fun _ => rfl⟩
  · intro h' tk' hn' hs
    have hx₁ : (hp.push { cls := .type "dict", data := .dict #[] }).get? x = some { cls := .ref C, data := .fields fv } := Heap.get?_push_of_some _ hx
    refine hq h' tk' hp.objs.size (fun b o hb ho => ?_) (Nat.le_refl _) hxs.symm ?_ hn'
    · exact (hs.2 b (Nat.ne_of_lt (Heap.lt_size ho))).trans ((Heap.get?_update_ne _ _ _ _ hb).trans (Heap.get?_push_of_some _ ho))
    · exact (hs.2 x hxs).trans (Heap.get?_update_self _ hx₁ rfl)
end
/-- the body's shape: super().__init__(msg); self.f = p -/
def initBody (msg f p : Str) (c : Nat) (p0 p1 p2 p3 p4 p5 q1 q2 q3 q4 : Pos) : List Stmt :=
  [.Expr (.Call (.Attribute (.Call (.Name "super" p0) [] [] p1) "__init__" p2) [.Constant (.str msg) c p3] [] p4) p5, .Assign [.Attribute (.Name "self" q1) f q2] (.Name p q3) q4]
/-- what the written part says of the class at C and of its __init__ at fI -/
structure ExF (prog : Program) (K : Frag) (mg : Str → Option Value) (x f p qual : Str) (st : Stmt) (B newId i : String) (bmB : List Value) (C fI : Addr) : Prop where
  g : mg x = some (.ref C)
  q : excInitIn K C bmB newId = true
  ov : excOver K C bmB = true
  sa : findIn K (.ref C) "__setattr__" = some (some (.builtin "object.__setattr__"))
  ga : findIn K (.ref C) "__getattribute__" = some (some (.builtin "BaseException.__getattribute__"))
  gg : findIn K (.ref C) "__getattr__" = some none
  no : findIn K (.ref C) f = some none
  iC : findIn K (.ref C) "__init__" = some (some (.ref fI))
  tC : typeIn K (.ref fI) = some (.type "function")
  kC : keepIn K (.ref C) = true
  exC : subIn K (.ref C) (.type "BaseException") = some true
  suB : subIn K (.ref C) (.type B) = some true
  tyC : typeIn K (.ref C) = some (.type "type")
  hdC : hasDictIn K C = true
  te : exmOne K (.ref C) (.ref C) = some true
  mC : mroIn K C (.ref C) = some true
  su : ks_superIn K C C "__init__" = some (some (.builtin i))
  zs : nsIn K mainGlobals "super" = some none
  zt : nsIn K cStatics "thirdparty.any" = some none
  fn : ∃ (oc : Value) (od : Option Addr) (kV doc pm : Value) (an : Option Addr) (cda : Addr) (ct : Value) (osl : Array (Option Value)) (cc : Addr) (cl : Value) (cld : Option Addr) (csl : Array (Option Value)) (ccl : Value) (cdd : Option Addr) (vs : Array Value) (ccs : Array (Option Value)) (file : Str) (tf : Tok),
    K.lookup fI = some ⟨oc, od, .func (ksFn "__init__" qual (L2.defArgs st) (L2.defBody st) (L2.defScope st) .none kV doc pm an (.ref cda) ct cc), osl⟩ ∧ codeIn K (.ref cda) qual = true ∧ K.lookup cc = some ⟨cl, cld, .cell (some (.ref C)), csl⟩ ∧
    K.lookup cda = some ⟨ccl, cdd, .fields vs, ccs⟩ ∧ vs[2]? = some (.str file tf) ∧ ((prog.main.file : Str) == file) = true
/-- what __init__ leaves of a fresh exception at x -/
structure InitEnd (f : Str) (h h' : Heap) (x C dx t1 : Addr) (v : Value) : Prop where
  keep : ∀ b o, b ≠ x → h.get? b = some o → h'.get? b = some o
  obj : h'.get? x = some { cls := .ref C, dict := some dx, data := .fields #[.ref t1, .none, .none, .none, .bool false, .none] }
  dbig : h.objs.size ≤ dx
  dne : dx ≠ x
  ns : h'.Ns1 dx (fun y => if y = f then some v else none)
section
variable {prog : Program} {w : World} {A : Around} {E : Value → Shared → Prop} {R : Result → Shared → Prop} {s : Shared} {K : Frag} {mg : Str → Option Value} {x f p qual : Str} {st : Stmt} {B newId i : String} {bmB : List Value} {C fI : Addr}
theorem super_node {body : List Stmt} {q : Str} {scope : Scope} {p0 p1 : Pos} {attr : Str} {whole : Sem Value} {fd : FuncData} {ar : Arg} {vs : Array Value} {file : Str} {tf : Tok} {oc ccl cl : Value} {od cdd cld : Option Addr} {osl ccs csl : Array (Option Value)} {cdD : ClassData} {Q : Value → Shared → Prop}
    {h₀ : Heap} {L fI cda cc D xa : Addr} {m mb : Str → Option Value} {ox : Obj} {odx : Option Obj}
    (F : Fr h₀ L s.heap m) (X₀ : K.In h₀) (hg : h₀.Ns mainGlobals mg) (hb : h₀.Ns builtinsNs mb) (hbs : mb "super" = bootBuiltins "super")
    (hf : K.lookup fI = some ⟨oc, od, .func fd, osl⟩) (hp : (fd.params.posonlyargs ++ fd.params.args).head? = some ar) (hv : m ar.arg = some (.ref xa)) (I : InstAt s.heap xa ox C odx)
    (hcode : K.lookup cda = some ⟨ccl, cdd, .fields vs, ccs⟩) (hvs : vs[2]? = some (.str file tf)) (hfile : ((prog.main.file : Str) == file) = true)
    (hcell : K.lookup cc = some ⟨cl, cld, .cell (some (.ref D)), csl⟩) (hD : clsIn K D = some cdD) (hsub : mroIn K C (.ref D) = some true) (hsuper : nsIn K mainGlobals "super" = some none)
    (hat : (attr == ("__class__" : Str)) = false) (hks : scope.names.lookup ("super" : Str) = some .globalImplicit) (hkc : scope.names.lookup ("__class__" : Str) = some .free) (hka : scope.names.lookup ar.arg = some .local) (hk : scope.kind = .function)
    (htop : (prog.main.scope.names.lookup ("super" : Str)).isSome = false)
    (h : ∀ so h', Fr h₀ L h' m → News h₀ L h' [(so, ks_superObj D xa C)] → (∀ b o, s.heap.get? b = some o → h'.get? b = some o) → Q (.ref so) { s with heap := h' }) :
    _root_.PySem.wpAt (model prog w) A (.func body (ksEnv q scope L fI (.ref cda) cc)) (attributeBase (.Call (.Name "super" p0) [] [] p1) attr (ksEnv q scope L fI (.ref cda) cc) whole) Q E s := by
  have X : K.In s.heap := X₀.keeps F.keep
  obtain ⟨hh, g, d, t, os⟩ := s
  obtain ⟨oD, hD1, hD2⟩ : ∃ oD, hh.get? D = some oD ∧ oD.data = .cls cdD := by
    unfold clsIn at hD
    split at hD
    · rename_i c d cd' sl ho
      cases hD
      exact ⟨_, X _ _ ho, rfl⟩
    · cases hD
  refine ks_wpAt_super_base (env := ksEnv q scope L fI (.ref cda) cc) hks hkc hat rfl (X _ _ hf) rfl hp rfl (X _ _ hcode) rfl hvs hfile htop ?_
  refine ks_loadName_global hk hks (loadGlobal_builtin (env := ksEnv q scope L fI (.ref cda) cc) (hg.keeps F.keep) (mg_none_of X₀ hg hsuper) (hb.keeps F.keep) (hbs.trans (by first | boot_by_name | rfl | kernel_rfl)) ⟨rfl, ?_⟩)
  refine wpAny_loadName_free hk hkc rfl ⟨_, X _ _ hcell, rfl⟩ ?_
  refine wpAny_loadName_local hk hka F.ns hv ?_
  refine ks_wpAny_isType_cls hD1 hD2 ⟨rfl, ?_⟩
  refine ks_wpAny_call_super hD1 hD2 I.at_ I.cls (fun c e => ?_) (looks_mroIn X hsub) (fun h' e k => ?_)
  · have := I.no
    unfold notCls at this
    rw [e] at this
    exact Bool.noConfusion this
  · obtain ⟨F', N', l'⟩ := ks_newsPush (s := ⟨hh, g, d, t, os⟩) (news := []) F News.nil rfl e k
    exact h _ _ F' N' k
end
/-- a made one -/
structure OwnMade (f : Str) (h h' : Heap) (e C d : Addr) (v : Value) : Prop where
  keep : ∀ b o, h.get? b = some o → h'.get? b = some o
  new : h.objs.size ≤ e
  obj : ∃ oe vs, h'.get? e = some oe ∧ oe.cls = .ref C ∧ oe.dict = some d ∧ oe.data = .fields vs ∧ vs[1]? = some .none
  dbig : h.objs.size ≤ d
  dne : d ≠ e
  ns : h'.Ns1 d (fun y => if y = f then some v else none)
open L2 in
theorem relO_one {f0 : Str} {v : V} {v' : Value} (r : RelV v v') (f : Str) : RelO (List.lookup f [(f0, v)]) (if f = f0 then some v' else none) := by
  by_cases hw : f = f0
  · subst hw
    rw [if_pos rfl]
    have q : List.lookup f [(f, v)] = some v := by simp [List.lookup]
    rw [q]
    exact r
  · rw [if_neg hw]
    have qw : (f == f0) = false := by simpa using hw
    have q2 : List.lookup f [(f0, v)] = none := by simp [List.lookup, qw]
    rw [q2]
    trivial
open L2 in
/-- X(e): the error's own dict, new, holds the field -/
def tMk1 (f : Str) (C : Addr) (ta : TA) : L2.St → Hp → XK → Prop := fun σ H Q => ta σ H fun vs H1 => ∃ v, vs = [v] ∧ ∀ d, H1 d = none → Q (.ref C) (some d) (upd H1 d (.xd [(f, v)]))
/-- self.name = v on an exception that has its dict, any built-in base -/
theorem osa_more {B : String} {bmB : List Value} {prog : Program} {w : World} {A : Around} {R : Result → Shared → Prop} {hp : Heap} {g : Array GenState} {d : Drawn} {t : Nat} {os : OsState} {K : W.Frag} {name : Str} {tk : Tok} {v : Value} {x C dx : Addr} {fv : Array Value} {cd : ClassData} {l : List Value} {m0 : Str → Option Value} {nl : List Str} (SF : StoreFacts B bmB "object.__setattr__" "object")
    (X : K.In hp) (hx : hp.get? x = some { cls := .ref C, dict := some dx, data := .fields fv }) (hns : hp.Ns1 dx m0) (hw : Within m0 nl) (hz : nl.length ≤ 1000) (hcd : W.clsIn K C = some cd) (hm : cd.mro = .ref C :: l) (ht : excTail bmB l = true) (hh : cd.hasDict = true) (ha : W.findIn K (.ref C) name = some none)
    (hq : ∀ h' tk', (∀ b o, b ≠ dx → hp.get? b = some o → h'.get? b = some o) → h'.Ns1 dx (fun y => if y = name then some v else m0 y) → R (.ok (.ret .none)) ⟨h', g, d, tk', os⟩) :
    codeAny (model prog w) A (.call (.builtin "object.__setattr__") ⟨[.ref x, .str name tk, v], []⟩) R ⟨hp, g, d, t, os⟩ := by
  obtain ⟨oD, esD, epD, hoD, hdD, _⟩ := hns.count hw
  have I : W.InstAt hp x { cls := .ref C, dict := some dx, data := .fields fv } C (some oD) := ⟨hx, rfl, rfl, hoD⟩
  have SO := F.store_object
  have hob : cd.mro.contains (.type "object") = true := by
    rw [hm, List.contains_cons, excTail_contains "object" l ht, SF.hasOwner, Bool.or_true]
  have sub : W.Looks (model prog w) hp (isInstance (.ref x) (.type "object")) true := I.type.andThen (W.looks_mroIn X (by unfold W.mroIn; rw [hcd, Option.bind_some, if_neg (by rw [hm]; exact Bool.false_ne_true), hob]))
  refine codeAny_call_builtin SO.slot.plain SO.entry (@W.check_slot (model prog w) _ _ ⟨hp, g, d, t, os⟩ "object.__setattr__" "object" "__setattr__" (.ref x) [.str name tk, v] [] _ SO.kind SO.split sub (SO.args (.ref x) (.str name tk) v) ?_)
  have hmr : W.Looks (model prog w) hp (mroOf (.ref C)) cd.mro := (W.looks_clsIn X hcd).andThen .now
  have L3 : W.Looks (model prog w) hp (storeTaker? none) none := .now
  have hcls : W.Looks (model prog w) hp (classData C) cd := W.looks_clsIn X hcd
  have hpass : refuseLoop (.ref x) "__setattr__" cd.mro = pure () := by
    rw [hm, refuseLoop_ref]
    exact excTail_pass _ (SF.passes _) l ht
  rw [W.osa_eq, refuse_eq]
  refine wpAny_bind (wpAny_bind (I.type.at (wpAny_bind (hmr.at ?_))))
  rw [hpass]
  refine wpAny_pure (wpAny_bind (I.type.at (wpAny_bind ((W.looks_findIn X ha).at (wpAny_bind (L3.at ?_))))))
  show wpAny _ _ (storeInOwnDict (.ref x) (.ref C) (.str name tk) name v false) _ _ _
  obtain ⟨nm, bs, mro, ns, qn, hd, sn, sb, ab, col, del⟩ := cd
  dsimp only at hh
  subst hh
  unfold storeInOwnDict ownDictForStores
  repeat (first | with_reducible refine OEX.store_in_old hns hw hz ?_ | with_reducible refine wpAny_loadPart_at hx ?_ | with_reducible refine hcls.at ?_ | wp_step)
  intro h' tk' hn' hs
  exact hq h' tk' (fun b o hb ho => (hs.2 b hb).trans ho) hn'
structure InitEndT (f f2 : Str) (h h' : Heap) (x C dx t1 : Addr) (v v2 : Value) : Prop where
  keep : ∀ b o, b ≠ x → h.get? b = some o → h'.get? b = some o
  obj : h'.get? x = some { cls := .ref C, dict := some dx, data := .fields #[.ref t1, .none, .none, .none, .bool false, .none] }
  dbig : h.objs.size ≤ dx
  dne : dx ≠ x
  ns : h'.Ns1 dx (fun y => if y = f2 then some v2 else if y = f then some v else none)
structure OwnMadeT (f f2 : Str) (h h' : Heap) (e C d : Addr) (v v2 : Value) : Prop where
  keep : ∀ b o, h.get? b = some o → h'.get? b = some o
  new : h.objs.size ≤ e
  obj : ∃ oe vs, h'.get? e = some oe ∧ oe.cls = .ref C ∧ oe.dict = some d ∧ oe.data = .fields vs ∧ vs[1]? = some .none
  dbig : h.objs.size ≤ d
  dne : d ≠ e
  ns : h'.Ns1 d (fun y => if y = f2 then some v2 else if y = f then some v else none)
open L2 in
theorem relO_two {f0 f1 : Str} {v v2 : V} {v' v2' : Value} (hf : f0 ≠ f1) (r : RelV v v') (r2 : RelV v2 v2') (f : Str) : RelO (List.lookup f [(f0, v), (f1, v2)]) (if f = f1 then some v2' else if f = f0 then some v' else none) := by
  by_cases hw : f = f0
  · subst hw
    rw [if_neg hf, if_pos rfl]
    have q : List.lookup f [(f, v), (f1, v2)] = some v := by simp [List.lookup]
    rw [q]
    exact r
  · have qw : (f == f0) = false := by simpa using hw
    have q : List.lookup f [(f0, v), (f1, v2)] = List.lookup f [(f1, v2)] := by simp [List.lookup, qw]
    rw [q, if_neg hw]
    exact relO_one r2 f
open L2 in
theorem vals_two {v v2 : V} {us : List Value} (r : Vals [v, v2] us) : ∃ u u2, us = [u, u2] ∧ RelV v u ∧ RelV v2 u2 := by
  cases r with
  | cons r1 rn =>
    cases rn with
    | cons r2 rn =>
      cases rn
      exact ⟨_, _, rfl, r1, r2⟩
open L2 in
/-- X(e, f): the error's own dict, new, holds both -/
def tMk2 (f f2 : Str) (C : Addr) (ta : TA) : L2.St → Hp → XK → Prop := fun σ H Q => ta σ H fun vs H1 => ∃ v v2, vs = [v, v2] ∧ ∀ d, H1 d = none → Q (.ref C) (some d) (upd H1 d (.xd [(f, v), (f2, v2)]))
theorem ExF.second {prog : Program} {K : Frag} {mg : Str → Option Value} {x f p f2 p2 qual : Str} {st : Stmt} {B newId i : String} {bmB : List Value} {C fI : Addr} (T : ExF prog K mg x f p qual st B newId i bmB C fI) (h : findIn K (.ref C) f2 = some none) : ExF prog K mg x f2 p2 qual st B newId i bmB C fI := { T with no := h }
end SupX
end PySem
namespace L2
open PySem PySem.Spec PyProof.Rows
section
variable {X : Cx} {C fI : Addr} {x f p qual : Str} {st : Stmt} {B newId i : String} {bmB : List Value}
/-- e.f, e the exception that the suite holds (at a; its class cls, its dict d) -/
def tBy1 (f : Str) (C : Addr) (a : Addr) (cls : Value) (d : Option Addr) (te : TE) : TE := fun σ H Q => te σ H fun x H1 => x = .ref a ∧ cls = .ref C ∧ ∃ (dd : Addr) (fs : List (Str × V)) (v : V), d = some dd ∧ H1 dd = some (.xd fs) ∧ fs.lookup f = some v ∧ Q v H1
theorem pe_by1 {a : Addr} {oe : Obj} {cls : Value} {d : Option Addr} {pn : List (Addr × Obj)} {e : Expr} {te : TE} {pos : Pos} (T : PySem.SupX.ExF X.prog X.K X.mg x f p qual st B newId i bmB C fI) (hz : Zc cls d oe) (hf : ∃ vs, oe.data = .fields vs) (he : PE (X.suite a ((a, oe) :: pn)) e te)
    (hb : attributeBase e f X.env (eval e X.env) = eval e X.env := by rfl) :
    PE (X.suite a ((a, oe) :: pn)) (.Attribute e f pos) (tBy1 f C a cls d te) := by
  refine ⟨fun pins s σ H Q I h => ?_⟩
  refine attr_of hb (thn (he.run pins s σ H _ I h) fun u s1 hh => ?_)
  obtain ⟨x, H1, I1, rx, ex, ec, dd, fs, v, ed, ea, l, q⟩ := hh
  subst ex
  obtain rfl : u = Value.ref a := rx
  subst ec
  subst ed
  obtain ⟨ha, _⟩ := I1.pin (a, oe) (List.mem_append_left _ List.mem_cons_self)
  obtain ⟨vs, hd⟩ := hf
  have hx : ObjOk X.prog X.w H1 s1.heap dd (.xd fs) := I1.hok dd _ ea
  obtain ⟨mA, hns, hr⟩ := hx
  obtain ⟨od, ho, hl⟩ := lookIn_ns hns
  obtain ⟨u, hu, ru⟩ := RelO.some_of (v := v) (o := mA f) (by rw [← l]; exact hr f)
  have J : PySem.W.InstAt s1.heap a oe C (some od) := ⟨ha, hz.1, by unfold PySem.W.notCls; rw [hd] <;> rfl, by rw [hz.2]; exact ho⟩
  exact HandSPX.exc_get I1.kIn J T.ga T.gg T.exC (PySem.W.findObj_own T.hdC T.no rfl (by rw [hl, hu])) (handed_of ru) ⟨v, H1, I1.tok _, ru, q⟩
end
end L2

/-! ### except clauses in a row, some with a name, all that is wished for being caught -/
namespace L2
open PySem PySem.Spec PyProof.Rows
structure Cls1 where
  c : Value
  i : Option Nat
  ts : Addr → Value → Option Addr → TS
def Cls1.ends (q : Cls1) (D : Ends) : Ends := match q.i with
  | none => D
  | some i => { nx := fun σ H => D.nx (σ.set i none) H, rt := D.rt, bk := fun σ H => D.bk (σ.set i none) H, ct := fun σ H => D.ct (σ.set i none) H }
def Cls1.at (q : Cls1) (a : Addr) (σ : St) : St := match q.i with
  | none => σ
  | some i => σ.set i (some (.ref a))
def wMix (K : PySem.W.Frag) (D : Ends) : List Cls1 → WX
  | [] => fun _ _ _ _ => False
  | q :: r => fun cls d σ H => ∃ b, PySem.W.exmOne K cls q.c = some b ∧ (b = true → ∀ a, H a = none → q.ts a cls d (q.ends D) (q.at a σ) H) ∧ (b = false → wMix K D r cls d σ H)
def SuiteOk (X : Cx) (b : List Stmt) (ts : Addr → Value → Option Addr → TS) : Prop :=
  ∀ (a : Addr) (oe : Obj) (cls : Value) (d : Option Addr) (pn : List (Addr × Obj)), Zc cls d oe → (∃ vs, oe.data = .fields vs) → PSs (X.suite a ((a, oe) :: pn)) b (ts a cls d)
inductive ClsOk (X : Cx) : List ExceptHandler → List Cls1 → Prop
  | nil : ClsOk X [] []
  | plain {x : Str} {c : Value} {ts} {b₀ : Stmt} {b : List Stmt} {np p : Pos} {hs l} (hc : Names X x c) (ok : SuiteOk X (b₀ :: b) ts) (r : ClsOk X hs l) : ClsOk X (.ExceptHandler (some (.Name x np)) none (b₀ :: b) p :: hs) (⟨c, none, ts⟩ :: l)
  | named {x n : Str} {c : Value} {i : Nat} {ts} {b₀ : Stmt} {b : List Stmt} {np p : Pos} {hs l} (hi : X.N[i]? = some n) (hln : X.env.kindOf n = some .local) (hc : Names X x c) (ok : SuiteOk X (b₀ :: b) ts) (r : ClsOk X hs l) :
      ClsOk X (.ExceptHandler (some (.Name x np)) (some n) (b₀ :: b) p :: hs) (⟨c, some i, ts⟩ :: l)
theorem ps_try_mix {X : Cx} {body : List Stmt} {hds : List ExceptHandler} {l : List Cls1} {pos : Pos} {tb : WX → TS} (hs : X.stack = X.env :: X.outer) (hf : X.env.frame = some X.env.locals) (hN : X.N.Nodup) (hne : hds ≠ [])
    (hb : ∀ (W : WX) (pn : List (Addr × Obj)) (xe : Value → Shared → Prop), Takes (X.tr pn xe) W → PassesOwn (model X.prog X.w) X.A X.env xe → PSs (X.tr pn xe) body (tb W))
    (hh : ClsOk X hds l) : PS X (.Try body hds [] [] pos) (fun D σ H => tb (wMix X.K D l) D σ H) := by
  obtain ⟨h₀, hd', rfl⟩ : ∃ h t, hds = h :: t := by
    cases hds with
    | nil => exact absurd rfl hne
    | cons h t => exact ⟨h, t, rfl⟩
  refine ⟨fun pins s σ H D I h => wpAny_Try_except ?_⟩
  have ok := I.ok
  refine wpAny_mono ((hb (wMix X.K D l) (X.pn ++ pins) (fun e s₁ => wpAny (model X.prog X.w) X.A (noteFrame e X.env) (fun _ s₂ => wpAny (model X.prog X.w) X.A (setFlight e none) (fun _ s₃ =>
    wpAny (model X.prog X.w) X.A (handleBy e X.env (h₀ :: hd')) (SP X pins D) X.xe s₃) X.xe s₂) X.xe s₁) (fun u s' xx => ?_) PassesOwn.looking).run [] s σ H D (I.toTry _) h) (fun f s1 g => ?_) (fun _ _ he => he)
  case refine_2 =>
    cases f with
    | next => exact let ⟨σ', H', J, q⟩ := g; wpAny_execs_nil ⟨σ', H', J.ofTry ok, q⟩
    | brk => exact let ⟨σ', H', J, q⟩ := g; ⟨σ', H', J.ofTry ok, q⟩
    | cont => exact let ⟨σ', H', J, q⟩ := g; ⟨σ', H', J.ofTry ok, q⟩
    | ret u => exact let ⟨v, σ', H', J, r, q⟩ := g; ⟨v, σ', H', J.ofTry ok, r, q⟩
  obtain ⟨a, B, sI, pins', σ', H', cls, d, rfl, J', nb, up, sky, na, os, ag, w⟩ := xx
  have J : Inv X pins σ' H' sI := J'.ofTry ok
  refine Sky.land Zc.steady (by rw [ok.frames, hs]) hf (show Sky B (X.env :: X.outer) a (Zc cls d) X.env.locals s'.heap by rw [← hs]; exact sky) fun h3 fl up3 => ?_
  have J3 : Inv X pins σ' H' { s' with heap := h3 } := J.landed nb fl.1 (up.trans up3) os ag
  obtain ⟨oe, vs, he, hz, hd⟩ := fl.there
  have away : a ∉ frs (X.env :: X.outer) := fun hm => by
    obtain ⟨_, o', e', nf⟩ := fl.2.2.1.mem hm
    rw [he] at e'; cases e'
    exact nf _ hd
  have nL : a ≠ X.env.locals := fun z => away (List.mem_filterMap.mpr ⟨X.env, List.mem_cons_self, by rw [hf, z]⟩)
  have nF : a ∉ X.fs := fun hm => by
    obtain ⟨e, h1, q⟩ := List.mem_filterMap.mp hm
    exact away (List.mem_filterMap.mpr ⟨e, List.mem_cons_of_mem _ h1, q⟩)
  have S3 := J3.suite he hd na nL nF
  have LT : PySem.W.Looks (model X.prog X.w) h3 (typeOf (.ref a)) cls := fun A Q E s k q => wpAny_typeOf_ref (k _ _ he) (by rw [hz.1]; exact q)
  have look : ∀ {x : Str} {np : Pos} {c : Value}, Names X x c → ∀ {Q : Value → Shared → Prop} {E : Value → Shared → Prop}, Q c { s' with heap := h3 } → wpAny (model X.prog X.w) (X.A.mark (some (.ref a))) (eval (.Name x np) X.env) Q E { s' with heap := h3 } := by
    rintro x np c ⟨hg, hdb, hm | ⟨hm, hv, hnn⟩⟩ Q E q
    · exact ld_glob (X := X.suite a ((a, oe) :: (X.pn ++ pins))) S3 hg hm q hdb
    · exact ld_blt (X := X.suite a ((a, oe) :: (X.pn ++ pins))) S3 hg hm hv q hnn hdb
  have go : ∀ {hs l}, ClsOk X hs l → wMix X.K D l cls d σ' H' → wpAny (model X.prog X.w) X.A (handleBy (.ref a) X.env hs) (SP X pins D) X.xe { s' with heap := h3 } := by
    intro hs l hk
    induction hk with
    | nil => exact fun w => w.elim
    | plain hc su r ih =>
      rintro ⟨b, hb1, yes, no⟩
      refine wpAny_handleBy_cons (codeAny_handlers_test ?_) (by intro q; cases q)
      refine look hc ((PySem.W.exm_one (M := model X.prog X.w) J3.kIn LT hb1).here ?_)
      cases b with
      | false => exact ih (no rfl)
      | true =>
        refine codeAny_handlers_suite (HandSPX.lands_againZ fl fun h4 fl4 up4 => ?_)
        have J4 : Inv X pins σ' H' { s' with heap := h4 } := J.landed nb fl4.1 ((up.trans up3).trans up4) os ag
        obtain ⟨oe4, vs4, he4, hz4, hd4⟩ := fl4.there
        refine wpAny_mono ((su a oe4 cls d (X.pn ++ pins) hz4 ⟨_, hd4⟩).run [] _ _ H' _ (J4.suite he4 hd4 na nL nF) (yes rfl a na)) (fun f s6 g => ?_) (fun _ _ z => z.elim)
        cases f with
        | next => exact let ⟨σ6, H6, S6, q6⟩ := g; ⟨_, _, S6.unsuite ok, q6⟩
        | brk => exact let ⟨σ6, H6, S6, q6⟩ := g; ⟨_, _, S6.unsuite ok, q6⟩
        | cont => exact let ⟨σ6, H6, S6, q6⟩ := g; ⟨_, _, S6.unsuite ok, q6⟩
        | ret u => exact let ⟨v6, σ6, H6, S6, r6, q6⟩ := g; ⟨_, _, _, S6.unsuite ok, r6, q6⟩
    | named hi hln hc su r ih =>
      rintro ⟨b, hb1, yes, no⟩
      refine wpAny_handleBy_cons (codeAny_handlers_test ?_) (by intro q; cases q)
      refine look hc ((PySem.W.exm_one (M := model X.prog X.w) J3.kIn LT hb1).here ?_)
      cases b with
      | false => exact ih (no rfl)
      | true =>
        refine codeAny_handlers_suite_as (HandSPX.lands_againZ fl fun h4 fl4 up4 => ?_)
        have J4 : Inv X pins σ' H' { s' with heap := h4 } := J.landed nb fl4.1 ((up.trans up3).trans up4) os ag
        obtain ⟨oe4, vs4, he4, hz4, hd4⟩ := fl4.there
        refine store_ok (X := X.suite a ((a, oe4) :: (X.pn ++ pins))) (v := .ref a) (J4.suite he4 hd4 na nL nF) hN hi (.inl hln) rfl (fun s5 S5 => ?_) (.inr hln)
        refine wpAny_mono ((su a oe4 cls d (X.pn ++ pins) hz4 ⟨_, hd4⟩).run [] s5 _ H' _ S5 (yes rfl a na)) (fun f s6 g => ?_) (fun _ _ z => z.elim)
        cases f with
        | next => exact let ⟨σ6, H6, S6, q6⟩ := g; gone_ok (S6.unsuite ok) hN hi hln fun s7 J7 => ⟨_, _, J7, q6⟩
        | brk => exact let ⟨σ6, H6, S6, q6⟩ := g; gone_ok (S6.unsuite ok) hN hi hln fun s7 J7 => ⟨_, _, J7, q6⟩
        | cont => exact let ⟨σ6, H6, S6, q6⟩ := g; gone_ok (S6.unsuite ok) hN hi hln fun s7 J7 => ⟨_, _, J7, q6⟩
        | ret u => exact let ⟨v6, σ6, H6, S6, r6, q6⟩ := g; gone_ok (S6.unsuite ok) hN hi hln fun s7 J7 => ⟨_, _, _, J7, r6, q6⟩
  exact go hh w
end L2

namespace My
/-! ### the last m of a list: of two lists, of a list repeated -/
def lastN {α : Type} (m : Nat) (xs : List α) : List α := xs.drop (xs.length - m)
theorem lastN_len {α : Type} (m : Nat) (xs : List α) : (lastN m xs).length = min m xs.length := by
  rw [lastN, List.length_drop]
  omega
theorem lastN_zero {α : Type} (xs : List α) : lastN 0 xs = [] := by
  rw [lastN, Nat.sub_zero, List.drop_length]
theorem lastN_all {α : Type} {m : Nat} {xs : List α} (h : xs.length ≤ m) : lastN m xs = xs := by
  rw [lastN, Nat.sub_eq_zero_of_le h, List.drop_zero]
theorem lastN_app {α : Type} (m : Nat) (a b : List α) : lastN m (a ++ b) = lastN (m - b.length) a ++ lastN m b := by
  rw [lastN, lastN, lastN, List.drop_append, List.length_append]
  by_cases h : m ≤ b.length
  · rw [List.drop_eq_nil_of_le (by omega : a.length ≤ a.length + b.length - m), List.drop_eq_nil_of_le (by omega : a.length ≤ a.length - (m - b.length)), show a.length + b.length - m - a.length = b.length - m from by omega]
  · rw [show a.length + b.length - m = a.length - (m - b.length) from by omega, show a.length - (m - b.length) - a.length = b.length - m from by omega]
/-- one part more ahead of what was found -/
theorem lastN_step {α : Type} (m : Nat) (a b : List α) : lastN (m - (lastN m b).length) a ++ lastN m b = lastN m (a ++ b) := by
  rw [lastN_app, lastN_len]
  rw [show m - min m b.length = m - b.length from by omega]
theorem lastN_pre {α : Type} {m : Nat} {a b : List α} (h : m ≤ b.length) : lastN m (a ++ b) = lastN m b := by
  rw [lastN_app, show m - b.length = 0 from by omega, lastN_zero, List.nil_append]
theorem lastN_twice {α : Type} (m : Nat) (xs : List α) : lastN m (lastN m xs) = lastN m xs := lastN_all (by rw [lastN_len]; omega)
theorem flat_rep_len {α : Type} (n : Nat) (xs : List α) : (List.replicate n xs).flatten.length = n * xs.length := by
  induction n with
  | zero => simp
  | succ n ih => rw [List.replicate_succ, List.flatten_cons, List.length_append, ih, Nat.succ_mul, Nat.add_comm]
theorem flat_rep_add {α : Type} (a b : Nat) (xs : List α) : (List.replicate (a + b) xs).flatten = (List.replicate a xs).flatten ++ (List.replicate b xs).flatten := by
  rw [← List.flatten_append, List.replicate_append_replicate]
/-- a list repeated often enough -/
theorem lastN_rep {α : Type} {m r n : Nat} {xs : List α} (h : r ≤ n) (hr : r = n ∨ m ≤ r * xs.length) : lastN m (List.replicate r xs).flatten = lastN m (List.replicate n xs).flatten := by
  rcases hr with rfl | hr
  · rfl
  · rw [show n = (n - r) + r from by omega, flat_rep_add, lastN_pre (by rw [flat_rep_len]; exact hr)]
/-- what the last m of a part tell of its repetition -/
theorem lastN_part {α : Type} {m n r : Nat} {xs : List α} (hm : 0 < (lastN m xs).length) (hr : r = min n ((m + ((lastN m xs).length - 1)) / (lastN m xs).length)) :
    lastN m (List.replicate r (lastN m xs)).flatten = lastN m (List.replicate n xs).flatten := by
  have hl := lastN_len m xs
  by_cases h : xs.length ≤ m
  · rw [lastN_all h] at hm hr ⊢
    refine lastN_rep (by omega) ?_
    by_cases c : n ≤ (m + (xs.length - 1)) / xs.length
    · exact Or.inl (by omega)
    · right
      rw [hr, Nat.min_eq_right (by omega)]
      have d := Nat.div_add_mod (m + (xs.length - 1)) xs.length
      have e := Nat.mod_lt (m + (xs.length - 1)) hm
      rw [Nat.mul_comm] at d
      omega
  · have lm : (lastN m xs).length = m := by omega
    have q : (m + ((lastN m xs).length - 1)) / (lastN m xs).length = 1 := by
      rw [lm]
      rw [lm] at hm
      refine Nat.div_eq_of_lt_le (by omega) (by omega)
    rw [q] at hr
    rcases Nat.eq_zero_or_pos n with z | z
    · subst z
      have : r = 0 := by omega
      subst this
      rfl
    · have : r = 1 := by omega
      subst this
      rw [List.replicate_one, List.flatten_cons, List.flatten_nil, List.append_nil, lastN_twice, show n = (n - 1) + 1 from by omega, flat_rep_add, List.replicate_one, List.flatten_cons, List.flatten_nil, List.append_nil, lastN_pre (by omega)]

end My
namespace My
open PySem PySem.Spec PyProof.Rows L2
/-! ### a lower bound of the tokens carried along: the words of the layer with n ≤ toks -/
section Tok
variable {X : Cx} {n : Nat}
def PEn (n : Nat) (X : Cx) (e : Expr) (t : TE) : Prop := ∀ (pins : List (Addr × Obj)) (s : Shared) (σ : L2.St) (H : Hp) (Q : VK), n ≤ s.toks → L2.Inv X pins σ H s → t σ H Q → wpAny (model X.prog X.w) X.A (eval e X.env) (EP X pins σ Q) X.xe s
def PTn (n : Nat) (X : Cx) (e : Expr) (t : TT) : Prop := ∀ (pins : List (Addr × Obj)) (s : Shared) (σ : L2.St) (H : Hp) (Q : Bool → Hp → Prop), n ≤ s.toks → L2.Inv X pins σ H s → t σ H Q → wpAny (model X.prog X.w) X.A (isTrue e X.env (eval e X.env)) (TP X pins σ Q) X.xe s
def PAn (n : Nat) (X : Cx) (es : List Expr) (t : TA) : Prop := ∀ (pos : Pos) (pins : List (Addr × Obj)) (s : Shared) (σ : L2.St) (H : Hp) (Q : List V → Hp → Prop), n ≤ s.toks → L2.Inv X pins σ H s → t σ H Q → wpAny (model X.prog X.w) X.A (spliced (backTo pos (starEach es X.env))) (AP X pins σ Q) X.xe s
def PSn (n : Nat) (X : Cx) (st : Stmt) (t : TS) : Prop := ∀ (pins : List (Addr × Obj)) (s : Shared) (σ : L2.St) (H : Hp) (D : Ends), n ≤ s.toks → L2.Inv X pins σ H s → t D σ H → wpAny (model X.prog X.w) X.A (exec st X.env) (SP X pins D) X.xe s
def PSsn (n : Nat) (X : Cx) (st : List Stmt) (t : TS) : Prop := ∀ (pins : List (Addr × Obj)) (s : Shared) (σ : L2.St) (H : Hp) (D : Ends), n ≤ s.toks → L2.Inv X pins σ H s → t D σ H → wpAny (model X.prog X.w) X.A (execs st X.env) (SP X pins D) X.xe s
theorem pen_of {e : Expr} {t : TE} (h : PE X e t) : PEn n X e t := fun pins s σ H Q _ I q => h.run pins s σ H Q I q
theorem ptn_of {e : Expr} {t : TT} (h : PT X e t) : PTn n X e t := fun pins s σ H Q _ I q => h.run pins s σ H Q I q
theorem pan_of {es : List Expr} {t : TA} (h : PA X es t) : PAn n X es t := fun pos pins s σ H Q _ I q => h.run pos pins s σ H Q I q
theorem psn_of {st : Stmt} {t : TS} (h : PS X st t) : PSn n X st t := fun pins s σ H D _ I q => h.run pins s σ H D I q
theorem pssn_of {st : List Stmt} {t : TS} (h : PSs X st t) : PSsn n X st t := fun pins s σ H D _ I q => h.run pins s σ H D I q
theorem pssn_cons {st : Stmt} {rest : List Stmt} {t u : TS} (h1 : PSn n X st t) (h2 : PSsn n X rest u) : PSsn n X (st :: rest) (tSeq t u) := by
  intro pins s σ H D h0 I h
  refine wpAny_execs_cons (wpAny_mono (wpAny_toks (h1 pins s σ H { nx := u D, rt := D.rt, bk := D.bk, ct := D.ct } h0 I h)) ?_ (fun _ _ z => z.2))
  rintro f s1 ⟨hk, q⟩
  cases f with
  | next =>
    obtain ⟨σ', H', I', q⟩ := q
    exact h2 pins s1 σ' H' D (Nat.le_trans h0 hk) I' q
  | brk => exact q
  | cont => exact q
  | ret v => exact q
theorem pssn_nil : PSsn n X [] tNext := pssn_of pss_nil
theorem psn_ret {e : Expr} {te : TE} {pos : Pos} (he : PEn n X e te) : PSn n X (.Return (some e) pos) (tRet te) := by
  intro pins s σ H D h0 I h
  refine wpAny_Return_some (thn (he pins s σ H D.rt h0 I h) ?_)
  rintro v s1 ⟨x, H1, I1, r1, q1⟩
  exact ⟨x, σ, H1, I1, r1, q1⟩
theorem psn_asg {pos : Pos} {tg e : Expr} {te : TE} {g : TG} (he : PEn n X e te) (hg : PG X tg g) (hs : swapsWithSole [tg] e pos.line X.env = pure false := by rfl) (hw : swappedStores [tg] e X.env = pure none := by rfl) (h1 : (assignEach [tg] X.env).map (fun x => x.snd) = [assign tg X.env] := by rfl) : PSn n X (.Assign [tg] e pos) (tAsg te g) := by
  intro pins s σ H D h0 I h
  refine wpAny_Assign_stores (thn (he pins s σ H (fun x H1 => g x σ H1 D.nx) h0 I h) ?_) hs hw
  rintro v s1 ⟨x, H1, I1, r1, q1⟩
  rw [h1]
  exact thn (hg.run pins s1 σ H1 x v D.nx I1 r1 q1) fun _ _ q => q
theorem psn_if {pos : Pos} {c : Expr} {a b : List Stmt} {tc : TT} {t u : TS} (hc : PTn n X c tc) (ha : PSsn n X a t) (hb : PSsn n X b u) : PSn n X (.If c a b pos) (tIfS tc t u) := by
  intro pins s σ H D h0 I h
  refine wpAny_If (wpAny_mono (wpAny_toks (hc pins s σ H (fun b H1 => if b = true then t D σ H1 else u D σ H1) h0 I h)) ?_ (fun _ _ z => z.2))
  rintro d s1 ⟨hk, H1, I1, q1⟩
  cases d with
  | true => exact ha pins s1 σ H1 D (Nat.le_trans h0 hk) I1 q1
  | false => exact hb pins s1 σ H1 D (Nat.le_trans h0 hk) I1 q1
theorem pen_op {e f : Expr} {te tf : TE} {pos : Pos} {op : Operator} {r : R2} (ho : OpR X (binaryOp op) r) (ha : PEn n X e te) (hb : PEn n X f tf) : PEn n X (.BinOp e op f pos) (tOp r te tf) := by
  intro pins s σ H Q h0 I h
  refine wpAny_BinOp (wpAny_mono (wpAny_toks (ha pins s σ H (fun x H1 => tf σ H1 fun y H2 => r x y H2 Q) h0 I h)) ?_ (fun _ _ z => z.2))
  rintro v s1 ⟨hk, x, H1, I1, r1, q1⟩
  refine thn (hb pins s1 σ H1 (fun y H2 => r x y H2 Q) (Nat.le_trans h0 hk) I1 q1) ?_
  rintro u s2 ⟨y, H2, I2, r2, q2⟩
  exact ho pins s2 σ H2 x y v u Q I2 r1 r2 q2
theorem pan_cons {e : Expr} {es : List Expr} {te : TE} {ta : TA} (ha : PEn n X e te) (hr : PAn n X es ta) (hs : starEach (e :: es) X.env = (false, eval e X.env) :: starEach es X.env := by rfl) : PAn n X (e :: es) (tCons te ta) := by
  intro pos pins s σ H Q h0 I h
  rw [hs]
  refine Calls.spliced_cons (wpAny_mono (wpAny_toks (ha pins s σ H (fun x H1 => ta σ H1 fun xs H2 => Q (x :: xs) H2) h0 I h)) ?_ (fun _ _ z => z.2))
  rintro v s1 ⟨hk, x, H1, I1, r1, q1⟩
  refine thn (hr pos pins s1 σ H1 (fun xs H2 => Q (x :: xs) H2) (Nat.le_trans h0 hk) I1 q1) ?_
  rintro us s2 ⟨xs, H2, I2, r2, q2⟩
  exact ⟨x :: xs, H2, I2, Paired.cons r1 r2, q2⟩
/-- a def that keeps its promise when at least n tokens have been given out -/
structure FnOkN (n : Nat) (P : Program) (w : World) (K : PySem.W.Frag) (mg : Str → Option Value) (base : Heap) (CX : CXT) (k : Nat) (f : Addr) (fd : FuncData) (ps : List Str) (sp : Sp) : Prop where
  len : ∀ (vs : List V) (H : Hp) (Q : VK) (E : XK), sp vs H Q E → vs.length = ps.length
  run : ∀ (A : Around) (outer : List Env) (s : Shared) (H : Hp) (args : Args) (us : List Value) (vs : List V) (Q : VK) (E : XK), n ≤ s.toks → Room k A → Env0 P w K mg base A outer s H → BindsTo s fd args (ps.zip us) → Vals vs us → sp vs H Q E → codeAny (model P w) A (.call (.ref f) args) (CR CX outer P w H s Q E) s
theorem run_fnN {CX : CXT} {k : Nat} {f : Addr} {fd : FuncData} {ps : List Str} {sp : Sp} {E : L2.St → XK} {pins : List (Addr × Obj)} {σ : L2.St} {H : Hp} {s : Shared} {Q : VK} {us : List Value} {vs : List V} (F : FnOkN n X.prog X.w X.K X.mg X.base CX k f fd ps sp) (hr : Room k X.A) (hb : Binds X.K fd ps []) (hx : PassesAt CX X σ (E σ)) (h0 : n ≤ s.toks) (I : L2.Inv X pins σ H s) (r : Vals vs us) (h : sp vs H Q (E σ)) : wpAny (model X.prog X.w) X.A (call (.ref f) us) (EP X pins σ Q) X.xe s := by
  have hl : us.length = ps.length := (Vals.length r).symm ▸ F.len vs H Q (E σ) h
  have b := hb s us (L2.Inv.kIn I) (by rw [List.append_nil]; exact hl)
  rw [List.append_nil] at b
  refine wpAny_call (codeAny_mono (F.run X.A X.stack s H ⟨us, []⟩ us vs Q (E σ) h0 hr (L2.Inv.env0 I) b r h) ?_)
  intro r s' hq
  cases r with
  | error e => exact hx pins H s e s' I hq
  | ok fl =>
    cases fl with
    | next => exact hq
    | brk => exact hq
    | cont => exact hq
    | ret u => exact L2.Inv.after I hq
theorem pen_callS {CX : CXT} {k : Nat} {f : Addr} {fd : FuncData} {ps : List Str} {sp : Sp} {E : L2.St → XK} {x : Str} {p pos : Pos} {e : Expr} {es : List Expr} {t : TA} (F : FnOkN n X.prog X.w X.K X.mg X.base CX k f fd ps sp) (hr : Room k X.A) (hg : Gl X x) (hm : X.mg x = some (.ref f)) (hk : PySem.W.keepIn X.K (.ref f) = true) (hb : Binds X.K fd ps []) (hx : ∀ σ : L2.St, PassesAt CX X σ (E σ)) (ha : PAn n X (e :: es) t) (hdb : (x == "__debug__") = false := by rfl) (he : starEach (e :: es) X.env = (false, eval e X.env) :: starEach es X.env := by rfl) (hpl : ((backTo pos (starEach es X.env)).any fun x => x.fst) = false := by rfl) : PEn n X (.Call (.Name x p) (e :: es) [] pos) (tCallS sp E t) := by
  intro pins s σ H Q h0 I h
  refine wpAny_Call_Name_kw (ld_glob I hg hm (PySem.W.callWith_K I.ok.mod.kin hk (wpAny_mono (wpAny_toks (ha pos pins s σ H (fun vs H1 => sp vs H1 Q (E σ)) h0 I h)) ?_ (fun _ _ z => z.2)) he hpl) hdb)
  rintro us s1 ⟨hk1, vs, H1, I1, r, q⟩
  exact ⟨L2.Inv.kIn I1, run_fnN F hr hb (hx σ) (Nat.le_trans h0 hk1) I1 r q⟩
theorem fn_ofN {CX : CXT} {P : Program} {w : World} {K : PySem.W.Frag} {mg : Str → Option Value} {base : Heap} {k : Nat} {f : Addr} {name qual : Str} {params : Arguments} {body : List Stmt} {scope : Scope} {dV kV doc pm cdv ct oc : Value} {an od : Option Addr} {osl : Array (Option Value)} {N ps : List Str} {sp : Sp}
    (lk : List.lookup f K = some { cls := oc, dict := od, data := .func (PySem.W.fnOf name qual params body scope dV kV doc pm an cdv ct), slots := osl }) (hcd : PySem.W.codeIn K cdv qual = true) (S : FnScope N ps scope)
    (len : ∀ (vs : List V) (H : Hp) (Q : VK) (E : XK), sp vs H Q E → vs.length = ps.length)
    (hbody : ∀ (A : Around) (outer : List Env) (s : Shared) (H : Hp) (vs : List V) (Q : VK) (E : XK), Room k (A.deeper (PyProof.Rows.envOfC qual scope s.heap.objs.size f cdv)) → sp vs H Q E →
      ∃ t, PSsn n (cxOf CX P w K mg base N qual scope f cdv A outer s H E) body t ∧ t { nx := fun _ H' => Q V.non H', rt := Q } (L2.start N vs) H) :
    FnOkN n P w K mg base CX (k + 1) f (PySem.W.fnOf name qual params body scope dV kV doc pm an cdv ct) ps sp := by
  refine ⟨len, fun A outer s H args us vs Q E h0 hr e0 hb r hsp => ?_⟩
  have hl := len vs H Q E hsp
  have KX := PySem.W.Frag.In.keeps e0.mod.kin fun b o e => (e0.bs b o e).1
  have lim := Heap.NoLimit.keeps e0.mod.nolimit fun b o e => (e0.bs b o e).1
  have hkind : ∀ x : Str × Value, x ∈ ps.zip us → List.lookup x.fst scope.names = some NameKind.local ∨ List.lookup x.fst scope.names = some NameKind.cell ∧ (List.lookup x.fst (cellsFrom (s.heap.objs.size + 1) scope.names [])).isSome = true := by
    rintro ⟨y, v⟩ hy
    rcases S.par y (List.of_mem_zip hy).1 with q | q
    · exact Or.inl q
    · exact Or.inr ⟨q, PySem.W.cellsFrom_some scope.names (s.heap.objs.size + 1) [] (Or.inl q)⟩
  refine codeAny_call_function (L2.Room.depth hr) (KX f _ lk) rfl S.co S.gen rfl (PySem.W.codeRec_of KX hcd) (hb (model P w) A.in1 _ _ ?_)
  have start := wpAny_toks (wpAny_newFunctionEnv_cells (M := model P w) (A := A.in1) (E := fun e s' => CR CX outer P w H s Q E (Except.error e) s') (globals := mainGlobals) (qual := qual ++ ".<locals>.") (func := some f) (code := cdv) (builtins := builtinsNs) (Q := fun env s1 => env = newEnv scope s.heap.objs.size mainGlobals (cellsFrom (s.heap.objs.size + 1) scope.names []) (qual ++ ".<locals>.") (some f) cdv none builtinsNs ∧ InCallC s env.locals (bindL env.kindOf (ps.zip us) fun _ => none) env.cells (bindC env.kindOf (ps.zip us) fun _ => none) s1) S.kind hkind (fun env he s1 x => ⟨he, x⟩))
  refine wpAny_mono start ?_ (fun _ _ z => z.2)
  rintro env s1 ⟨htk, he, x⟩
  subst he
  refine ⟨Heap.NoLimit.keeps lim x.toInCall.keep, codeAny_func ?_⟩
  obtain ⟨t, ht, hq⟩ := hbody A outer s H vs Q E (L2.Room.deeper hr (PyProof.Rows.envOfC qual scope s.heap.objs.size f cdv)) hsp
  have I := inv_start (E := E) (CX := CX) S hr.hd e0 hl r x
  refine wpAny_mono (ht [] s1 (L2.start N vs) H { nx := fun _ H' => Q V.non H', rt := Q } (Nat.le_trans h0 htk) I hq) ?_ (fun _ _ hs => hs)
  intro fl s' hs
  cases fl with
  | next =>
    obtain ⟨σ', H', J, q⟩ := hs
    exact ⟨V.non, H', J.os, J.bare, J.base, J.hok, rfl, q⟩
  | brk =>
    obtain ⟨_, _, _, q⟩ := hs
    exact q.elim
  | cont =>
    obtain ⟨_, _, _, q⟩ := hs
    exact q.elim
  | ret u =>
    obtain ⟨v, σ', H', J, rv, q⟩ := hs
    exact ⟨v, H', J.os, J.bare, J.base, J.hok, rv, q⟩
theorem okN {P : Program} {w : World} {K : PySem.W.Frag} {mg : Str → Option Value} {base : Heap} {x qual : Str} {params : Arguments} {body : List Stmt} {scope : Scope} {dvs : List V} {kws : List (Str × V)} {f : Addr} {fd : FuncData} {CX : CXT} {N ps : List Str} {k : Nat} {sp : Sp} (F : FunD K x qual params body scope dvs kws f fd) (S : FnScope N ps scope)
    (len : ∀ (vs : List V) (H : Hp) (Q : VK) (E : XK), sp vs H Q E → vs.length = ps.length)
    (hbody : ∀ (cdv : Value) (A : Around) (outer : List Env) (s : Shared) (H : Hp) (vs : List V) (Q : VK) (E : XK), Room k (A.deeper (PyProof.Rows.envOfC qual scope s.heap.objs.size f cdv)) → sp vs H Q E →
      ∃ t, PSsn n (cxOf CX P w K mg base N qual scope f cdv A outer s H E) body t ∧ t { nx := fun _ H' => Q V.non H', rt := Q } (L2.start N vs) H) :
    FnOkN n P w K mg base CX (k + 1) f fd ps sp := by
  obtain ⟨oc, od, dV, kV, doc, pm, an, cdv, ct, osl, rfl, lk, hcd, _⟩ := F.ex
  exact fn_ofN lk hcd S len fun A outer s H vs Q E hr hsp => hbody cdv A outer s H vs Q E hr hsp
/-- e.replace(NAME, "") with a name of the module whose token is below n -/
theorem pen_repl {o : Expr} {to : TE} {x y z : Str} {u : Tok} {k : Nat} {c0 c1 apos pos : Pos} (hg : Gl X x) (hm : X.mg x = some (.str y u)) (hu0 : u ≠ 0) (hun : u < n) (ho : PEn n X o to) (hyz : (y == z) = false := by rfl)
    (hdb : (x == "__debug__") = false := by rfl)
    (hst : starEach [.Name x c0, .Constant (.str z) k c1] X.env = [(false, eval (.Name x c0) X.env), (false, eval (.Constant (.str z) k c1) X.env)] := by rfl)
    (hbase : attributeBase o "replace" X.env (eval o X.env) = eval o X.env := by rfl) (hline : (apos.endLine == pos.line) = true := by rfl) :
    PEn n X (.Call (.Attribute o "replace" apos) [.Name x c0, .Constant (.str z) k c1] [] pos) (CwR.tReplC to y z) := by
  intro pins s σ H Q h0 I h
  refine Call_method2 hbase hst hline (wpAny_mono (wpAny_toks (ho pins s σ H (fun v H1 => ∃ x, v = V.str x ∧ x.length + (x.length + 1) * z.length ≤ 16777216 ∧ Q (V.str (Txt.replace x y z)) H1) h0 I h)) ?_ (fun _ _ q => q.2))
  rintro v s1 ⟨hk, v', H1, I1, r1, x', rfl, hb, q⟩
  obtain ⟨tx, rfl⟩ := r1
  have hns : n ≤ s1.toks := Nat.le_trans h0 hk
  refine ⟨"str", "str.replace", F.plainAttrs_str, F.slot_str_replace, F.type_str_replace, typeIs_str s1 x' tx, (fun _ e => nomatch e), ?_⟩
  refine Calls.callWith_builtin rfl (Calls.evalArgs_plain (Calls.spliced_cons (ld_glob I1 hg hm ?_ hdb)))
  refine Calls.spliced_cons (Calls.Constant_str (Calls.spliced_nil ?_))
  refine SC.replace hu0 (Nat.ne_of_gt (Nat.lt_of_lt_of_le (Nat.lt_of_le_of_lt (Nat.zero_le u) hun) hns)) (Nat.ne_of_lt (Nat.lt_of_lt_of_le hun hns)) hyz hb fun t' k => ?_
  exact ⟨V.str (Txt.replace x' y z), H1, L2.Inv.tok I1 k, ⟨t', rfl⟩, q⟩
theorem psn_for {tg iter : Expr} {body : List Stmt} {wi : TI} {g : TG} {tb : TS} {pos : Pos} (hp : PassesOwn (model X.prog X.w) X.A X.env X.xe) (hc : X.calm = true) (hi : PI X tg iter wi) (hg : PG X tg g) (hb : PSsn n X body tb) (hs : ∀ x, foldedSetIterable iter X.env x = pure x := by intro x; rfl) : PSn n X (.For tg iter body [] pos) (tFor wi g tb) := by
  intro pins s σ H D h0 I h
  refine wpAny_For (wpAny_mono (wpAny_toks (hi.run pins s σ H _ I h)) ?_ (fun _ _ z => z.2)) hs
  rintro v s1 ⟨k1, h1⟩
  refine wpAny_mono (wpAny_toks h1) ?_ (fun _ _ z => z.2)
  rintro itv s2 ⟨k2, it, fp, tn, J, H2, rfl, I2, T, st2, f2, W, ⟨m0, w0⟩, turn⟩
  refine codeAny_forLoop_any (fun m s' => n ≤ s'.toks ∧ ∃ i σ' H', L2.Inv X pins σ' H' s' ∧ tn i s'.heap ∧ (∀ b, b ∈ fp → H' b = none) ∧ W i m σ' H') ?_ m0 ⟨Nat.le_trans h0 (Nat.le_trans k1 k2), 0, _, H2, I2, st2, (fun b hb => (f2 b hb).1), w0⟩
  rintro m s3 ⟨k3, i, σ3, H3, I3, st3, fr3, w3⟩
  have stat : ∀ b, b ∈ fp → FpOk X pins H3 b := fun b hb => ⟨fr3 b hb, (f2 b hb).2⟩
  rcases turn i m σ3 H3 w3 with ⟨stop, qn⟩ | ⟨go, N, hN, step⟩
  · refine wpAny_passesOwn hp (thn (T.done X rfl rfl rfl hc i pins s3 σ3 H3 X.xe I3 stat st3 stop) ?_)
    rintro r s4 ⟨rfl, I4⟩
    exact wpAny_execs_nil ⟨σ3, H3, I4, qn⟩
  · refine wpAny_passesOwn hp (wpAny_mono (wpAny_toks (T.item X rfl rfl rfl hc i pins s3 σ3 H3 X.xe I3 stat st3 go)) ?_ (fun _ _ z => z.2))
    rintro r s4 ⟨k4, u, rfl, h4⟩
    refine wpAny_passesOwn hp (wpAny_mono (wpAny_toks h4) ?_ (fun _ _ z => z.2))
    rintro _ s5 ⟨k5, x, H5, I5, r5, y5, st5, fr5⟩
    have I5' := L2.Inv.pinned I5 (fun b hb => ⟨fr5 b hb, (f2 b hb).2⟩) (T.obj (i + 1) s5.heap st5)
    refine wpAny_passesOwn hp (wpAny_mono (wpAny_toks (hg.run (pins ++ pinsAt fp s5.heap) s5 σ3 H5 x u _ I5' r5 (step x H5 y5))) ?_ (fun _ _ z => z.2))
    rintro _ s6 ⟨k6, σ6, H6, I6, q6⟩
    have k36 : n ≤ s6.toks := Nat.le_trans k3 (Nat.le_trans k4 (Nat.le_trans k5 k6))
    refine wpAny_passesOwn hp (wpAny_mono (wpAny_toks (hb (pins ++ pinsAt fp s5.heap) s6 σ6 H6 { nx := N, rt := D.rt, bk := D.nx, ct := N } k36 I6 q6)) ?_ (fun _ _ z => z.2))
    rintro f s7 ⟨k7, q7⟩
    have more : ∀ σ7 H7, L2.Inv X (pins ++ pinsAt fp s5.heap) σ7 H7 s7 → N σ7 H7 → ∃ m', m' < m ∧ n ≤ s7.toks ∧ ∃ i σ' H', L2.Inv X pins σ' H' s7 ∧ tn i s7.heap ∧ (∀ b, b ∈ fp → H' b = none) ∧ W i m' σ' H' := by
      intro σ7 H7 I7 n7
      obtain ⟨m', hm, w7⟩ := hN σ7 H7 n7
      refine ⟨m', hm, Nat.le_trans k36 k7, i + 1, σ7, H7, L2.Inv.unpinned I7, T.keep (i + 1) s5.heap s7.heap st5 (fun b hb o e => (I7.pin (b, o) (List.mem_append_right X.pn (List.mem_append_right pins (mem_pinsAt hb e)))).1), fun b hb => ?_, w7⟩
      obtain ⟨o, e, _⟩ := T.obj (i + 1) s5.heap st5 b hb
      exact (I7.pin (b, o) (List.mem_append_right X.pn (List.mem_append_right pins (mem_pinsAt hb e)))).2.1
    cases f with
    | next =>
      obtain ⟨σ7, H7, I7, q7⟩ := q7
      exact more σ7 H7 I7 q7
    | cont =>
      obtain ⟨σ7, H7, I7, q7⟩ := q7
      exact more σ7 H7 I7 q7
    | brk =>
      obtain ⟨σ7, H7, I7, q7⟩ := q7
      exact ⟨σ7, H7, L2.Inv.unpinned I7, q7⟩
    | ret v =>
      obtain ⟨v', σ7, H7, I7, r7, q7⟩ := q7
      exact ⟨v', σ7, H7, L2.Inv.unpinned I7, r7, q7⟩
end Tok
theorem FnOkN.of {n : Nat} {P : Program} {w : World} {K : PySem.W.Frag} {mg : Str → Option Value} {base : Heap} {CX : CXT} {k : Nat} {f : Addr} {fd : FuncData} {ps : List Str} {sp : Sp} (F : FnOk P w K mg base CX k f fd ps sp) : FnOkN n P w K mg base CX k f fd ps sp := ⟨F.len, fun A outer s H args us vs Q E _ => F.run A outer s H args us vs Q E⟩

section TokMore
variable {X : Cx} {n : Nat}
theorem pssn_one {st : Stmt} {t : TS} (h : PSn n X st t) : PSsn n X [st] t := pssn_cons h pssn_nil
theorem psn_set {pos : Pos} {i : Nat} {x : Str} {e : Expr} {te : TE} {pos' : Pos} (hN : X.N.Nodup) (hi : X.N[i]? = some x) (hx : L2.Loc X.env.scope x) (he : PEn n X e te) (hs : swapsWith e (some (.Name x pos')) pos.line X.env = pure false := by rfl) (hf : X.fn x = true ∨ List.lookup x X.env.scope.names = some NameKind.local := by first | exact Or.inl rfl | exact Or.inr rfl) : PSn n X (.Assign [.Name x pos'] e pos) (tAsg te (gName i)) := by
  intro pins s σ H D h0 I h
  refine wpAny_Assign_Name (thn (he pins s σ H (fun x H1 => gName i x σ H1 D.nx) h0 I h) ?_) hs
  rintro v s1 ⟨y, H1, I1, r1, q1⟩
  exact store_ok I1 hN hi hx r1 (fun s2 I2 => ⟨σ.set i (some y), H1, I2, q1⟩) hf
theorem pen_cmpR {a b : Expr} {ta tb : TE} {pos : Pos} {op : CmpOp} {r : R2} (ho : OpR X (compareOp op) r) (ha : PEn n X a ta) (hb : PEn n X b tb) (hm : behindInMarks op b = false) : PEn n X (.Compare a [op] [b] pos) (tOp r ta tb) := by
  intro pins s σ H Q h0 I h
  refine wpAny_Compare1 (wpAny_mono (wpAny_toks (ha pins s σ H (fun x H1 => tb σ H1 fun y H2 => r x y H2 Q) h0 I h)) ?_ (fun _ _ z => z.2)) hm
  rintro v s1 ⟨hk, x, H1, I1, r1, q1⟩
  refine thn (hb pins s1 σ H1 (fun y H2 => r x y H2 Q) (Nat.le_trans h0 hk) I1 q1) ?_
  rintro u s2 ⟨y, H2, I2, r2, q2⟩
  exact ho pins s2 σ H2 x y v u Q I2 r1 r2 q2
theorem pen_one {a : Expr} {pos : Pos} {op : BoolOp} {t : TE} (h : PEn n X a t) : PEn n X (.BoolOp op [a] pos) t := fun pins s σ H Q h0 I hw => BoolOp_one (h pins s σ H Q h0 I hw)
theorem ptn_val {e : Expr} {t : TE} (h : PEn n X e t) (he : ∀ whole : Sem Value, isTrue e X.env whole = (do let v ← whole; standAt e.pos; holding [v] (truthy v)) := by intro; rfl) : PTn n X e (tB t) := by
  intro pins s σ H Q h0 I hw
  refine isTrue_plain (thn (h pins s σ H (fun x H1 => ∃ c, x = V.bl c ∧ Q c H1) h0 I hw) ?_) (he (eval e X.env))
  rintro v s1 ⟨x, H1, I1, r1, d, rfl, q⟩
  cases (show v = .bool d from r1)
  exact wpAny_truthy_bool ⟨H1, I1, q⟩
theorem ptn_not {a : Expr} {pos : Pos} {t : TT} (ha : PTn n X a t) : PTn n X (.UnaryOp .Not a pos) (tNot t) := fun pins s σ H Q h0 I h => isTrue_not (ha pins s σ H (fun c H1 => Q (!c) H1) h0 I h)
theorem ptn_cmpR {a b : Expr} {ta tb : TE} {pos : Pos} {op : CmpOp} {r : R2} (ho : OpR X (compareOp op) r) (ha : PEn n X a ta) (hb : PEn n X b tb) (hm : behindInMarks op b = false) : PTn n X (.Compare a [op] [b] pos) (tTest (tOp r ta tb)) := by
  intro pins s σ H Q h0 I h
  refine wpAny_isTrue_Compare1 (wpAny_mono (wpAny_toks (ha pins s σ H (fun x H1 => tb σ H1 fun y H2 => r x y H2 fun x H' => ∃ k, x = V.bl k ∧ Q k H') h0 I h)) ?_ (fun _ _ z => z.2)) hm
  rintro v s1 ⟨hk, x, H1, I1, r1, q1⟩
  refine thn (hb pins s1 σ H1 (fun y H2 => r x y H2 fun x H' => ∃ k, x = V.bl k ∧ Q k H') (Nat.le_trans h0 hk) I1 q1) ?_
  rintro u s2 ⟨y, H2, I2, r2, q2⟩
  refine thn (ho pins s2 σ H2 x y v u (fun x H' => ∃ k, x = V.bl k ∧ Q k H') I2 r1 r2 q2) ?_
  rintro c s3 ⟨z, H3, I3, r3, k, rfl, q3⟩
  cases (show c = .bool k from r3)
  exact wpAny_truthy_bool ⟨H3, I3, q3⟩
def PWn (n : Nat) (X : Cx) (e : Expr) (t : TT) : Prop := ∀ (whole : Sem Value) (pins : List (Addr × Obj)) (s : Shared) (σ : L2.St) (H : Hp) (Q : Bool → Hp → Prop), n ≤ s.toks → L2.Inv X pins σ H s → t σ H Q → wpAny (model X.prog X.w) X.A (PySem.isTrue e X.env whole) (TP X pins σ Q) X.xe s
theorem pwn_of {e : Expr} {t : TT} (h : PW X e t) : PWn n X e t := fun wh pins s σ H Q _ I q => h.run wh pins s σ H Q I q
theorem pwn_or {a b : Expr} {pos : Pos} {tA tB' : TT} {rest : List Expr} (ha : PTn n X a tA) (hb : PWn n X (.BoolOp .Or (b :: rest) pos) tB') : PWn n X (.BoolOp .Or (a :: b :: rest) pos) (tOr tA tB') := by
  intro wh pins s σ H Q h0 I h
  refine isTrue_or (wpAny_mono (wpAny_toks (ha pins s σ H (fun c H1 => if c = true then Q true H1 else tB' σ H1 Q) h0 I h)) ?_ (fun _ _ z => z.2))
  rintro c s1 ⟨hk, H1, I1, q1⟩
  cases c with
  | true => exact ⟨H1, I1, q1⟩
  | false => exact hb wh pins s1 σ H1 Q (Nat.le_trans h0 hk) I1 q1
theorem pwn_or1 {a : Expr} {pos : Pos} {tA : TT} (ha : PTn n X a tA) : PWn n X (.BoolOp .Or [a] pos) tA := by
  intro wh pins s σ H Q h0 I h
  refine isTrue_or (thn (ha pins s σ H Q h0 I h) ?_)
  intro c s1 e
  cases c with
  | true => exact e
  | false => exact isTrue_or_nil e
theorem psn_expr {e : Expr} {te : TE} {pos : Pos} (he : PEn n X e te) (hs : swapsWith e none pos.line X.env = pure false := by rfl) : PSn n X (.Expr e pos) (tDrop te) := by
  intro pins s σ H D h0 I h
  refine wpAny_Expr_any (thn (he pins s σ H (fun _ H1 => D.nx σ H1) h0 I h) ?_) (L2.Inv.quiet I) hs
  rintro v s1 ⟨x, H1, I1, r1, q1⟩
  exact ⟨σ, H1, I1, q1⟩
theorem pen_lst {es : List Expr} {t : TA} {pos : Pos} (h : PAn n X es t) : PEn n X (.List es pos) (tLst t) := by
  intro pins s σ H Q h0 I hq
  refine wpAny_List_spliced (thn (h pos pins s σ H (fun xs H1 => xs.length ≤ sizeLine ∧ ∀ p : Addr, H1 p = none → Q (V.ref p) (upd H1 p (HO.lst xs))) h0 I hq) ?_)
  rintro us s1 ⟨xs, H1, I1, r, z, q⟩
  refine ⟨by rw [← Vals.length r]; exact z, ?_⟩
  have hf := HOk.fresh I1.hok (Nat.le_refl s1.heap.objs.size)
  exact ⟨V.ref s1.heap.objs.size, upd H1 s1.heap.objs.size (HO.lst xs), L2.Inv.laid I1 (fun b u e => Heap.get?_push_of_some { cls := .type "list", data := .seq us.toArray } e) (Nat.le_refl _) ⟨z, us, 0, r, Heap.get?_push_size s1.heap rfl⟩, rfl, q s1.heap.objs.size hf⟩
theorem pen_tup {es : List Expr} {t : TA} {pos : Pos} {x1 : Nat} (h : PAn n X es t) : PEn n X (.Tuple es x1 pos) (tTup t) := by
  intro pins s σ H Q h0 I hq
  refine wpAny_Tuple_spliced (thn (h pos pins s σ H (fun xs H1 => xs.length ≤ sizeLine ∧ ∀ p : Addr, H1 p = none → Q (V.ref p) (upd H1 p (HO.tup xs))) h0 I hq) ?_)
  rintro us s1 ⟨xs, H1, I1, r, z, q⟩
  refine ⟨by rw [← Vals.length r]; exact z, ?_⟩
  have hf := HOk.fresh I1.hok (Nat.le_refl s1.heap.objs.size)
  exact ⟨V.ref s1.heap.objs.size, upd H1 s1.heap.objs.size (HO.tup xs), L2.Inv.laid I1 (fun b u e => Heap.get?_push_of_some { cls := .type "tuple", data := .seq us.toArray } e) (Nat.le_refl _) ⟨z, us, r, { cls := .type "tuple", data := .seq us.toArray }, Heap.get?_push_size s1.heap rfl, rfl, 0, rfl⟩, rfl, q s1.heap.objs.size hf⟩
theorem pen_callB {x : Str} {p pos : Pos} {e : Expr} {es : List Expr} {t : TA} {id : String} {r : List V → Hp → VK → Prop} (hc : CallR X (.builtin id) r) (hg : Gl X x) (hm : X.mg x = none) (hv : bootBuiltins x = some (.builtin id)) (ha : PAn n X (e :: es) t) (hn : x ≠ "__name__" := by decide) (hdb : (x == "__debug__") = false := by rfl) (he : starEach (e :: es) X.env = (false, eval e X.env) :: starEach es X.env := by rfl) (hpl : ((backTo pos (starEach es X.env)).any fun x => x.fst) = false := by rfl) : PEn n X (.Call (.Name x p) (e :: es) [] pos) (tCB r t) := by
  intro pins s σ H Q h0 I h
  refine wpAny_Call_Name_kw (ld_blt I hg hm hv (callWith_builtin1 (thn (ha pos pins s σ H (fun vs H1 => r vs H1 Q) h0 I h) ?_) he hpl) hn hdb)
  rintro us s1 ⟨vs, H1, I1, r1, q1⟩
  exact hc pins s1 σ H1 vs us Q I1 r1 q1
theorem run_fnD {CX : CXT} {k : Nat} {f : Addr} {fd : FuncData} {ps : List Str} {sp : Sp} {dvs : List V} {ds : List Value} {E : XK} {pins : List (Addr × Obj)} {σ : L2.St} {H : Hp} {s : Shared} {Q : VK} {us : List Value} {vs : List V} (F : FnOkN n X.prog X.w X.K X.mg X.base CX k f fd ps sp) (hr : Room k X.A) (hb : Binds X.K fd ps ds) (hd : Vals dvs ds) (hx : Passes CX X E) (h0 : n ≤ s.toks) (I : L2.Inv X pins σ H s) (r : Vals vs us) (h : sp (vs ++ dvs) H Q E) : wpAny (model X.prog X.w) X.A (call (.ref f) us) (EP X pins σ Q) X.xe s := by
  have r2 := Vals.append r hd
  have hl : (us ++ ds).length = ps.length := (Vals.length r2).symm ▸ F.len (vs ++ dvs) H Q E h
  refine wpAny_call (codeAny_mono (F.run X.A X.stack s H ⟨us, []⟩ (us ++ ds) (vs ++ dvs) Q E h0 hr (L2.Inv.env0 I) (hb s us (L2.Inv.kIn I) hl) r2 h) ?_)
  intro r s' hq
  cases r with
  | error e => exact hx pins σ H s e s' I hq
  | ok fl =>
    cases fl with
    | next => exact hq
    | brk => exact hq
    | cont => exact hq
    | ret u => exact L2.Inv.after I hq
theorem pen_call {CX : CXT} {k : Nat} {f : Addr} {fd : FuncData} {ps : List Str} {sp : Sp} {dvs : List V} {ds : List Value} {E : XK} {x : Str} {p pos : Pos} {e : Expr} {es : List Expr} {t : TA} (F : FnOkN n X.prog X.w X.K X.mg X.base CX k f fd ps sp) (hr : Room k X.A) (hg : Gl X x) (hm : X.mg x = some (.ref f)) (hk : PySem.W.keepIn X.K (.ref f) = true) (hb : Binds X.K fd ps ds) (hd : Vals dvs ds) (hx : Passes CX X E) (ha : PAn n X (e :: es) t) (hdb : (x == "__debug__") = false := by rfl) (he : starEach (e :: es) X.env = (false, eval e X.env) :: starEach es X.env := by rfl) (hpl : ((backTo pos (starEach es X.env)).any fun x => x.fst) = false := by rfl) : PEn n X (.Call (.Name x p) (e :: es) [] pos) (tCall sp dvs E t) := by
  intro pins s σ H Q h0 I h
  refine wpAny_Call_Name_kw (ld_glob I hg hm (PySem.W.callWith_K I.ok.mod.kin hk (wpAny_mono (wpAny_toks (ha pos pins s σ H (fun vs H1 => sp (vs ++ dvs) H1 Q E) h0 I h)) ?_ (fun _ _ z => z.2)) he hpl) hdb)
  rintro us s1 ⟨hk1, vs, H1, I1, r, q⟩
  exact ⟨L2.Inv.kIn I1, run_fnD F hr hb hd hx (Nat.le_trans h0 hk1) I1 r q⟩
theorem ptn_w {e : Expr} {t : TT} (h : PWn n X e t) : PTn n X e t := fun pins s σ H Q h0 I q => h (eval e X.env) pins s σ H Q h0 I q
theorem PSsn.nox {st : List Stmt} {t : TS} (h : PSsn n X.nox st t) : PSsn n X st t := fun pins s σ H D h0 I hw =>
  wpAny_mono (h pins s σ H D h0 (L2.Inv.wish I fun _ _ => False) hw) (fun _ _ q => SP.unwish q) fun _ _ z => z.elim
/-- a class called: the arguments alone want the tokens -/
theorem pen_make {CX : CXT} {k : Nat} {f C : Addr} {fd : FuncData} {ps : List Str} {sp : Sp} {dvs : List V} {ds : List Value} {E : XK} {x : Str} {p pos : Pos} {e : Expr} {es : List Expr} {t : TA} (M : Mk X.K C f) (F : FnOk X.prog X.w X.K X.mg X.base CX k f fd ps sp) (hr : Room (k + 1) X.A) (hg : Gl X x) (hm : X.mg x = some (.ref C)) (hb : Binds X.K fd ps ds) (hd : Vals dvs ds) (hx : Passes CX X E)
    (ha : PAn n X (e :: es) t) (hdb : (x == ("__debug__" : Str)) = false := by decide) (he : starEach (e :: es) X.env = (false, eval e X.env) :: starEach es X.env := by rfl) (hpl : ((backTo pos (starEach es X.env)).any fun x => x.fst) = false := by rfl) :
    PEn n X (.Call (.Name x p) (e :: es) [] pos) (tMake C sp dvs E t) := by
  intro pins s σ H Q h0 I h
  refine wpAny_Call_Name_kw (ld_glob I hg hm ?_ hdb)
  refine PySem.W.callWith_K (h₀ := X.base) I.ok.mod.kin M.kp (thn (ha pos pins s σ H _ h0 I h) ?_) he hpl
  rintro us s1 ⟨vs, H1, I1, r, q⟩
  exact ⟨I1.kIn, run_make M F hr hb hd hx I1 r q⟩
/-- in the place of F.ok: a def that raises nothing -/
theorem funN {P : Program} {w : World} {K : PySem.W.Frag} {mg : Str → Option Value} {base : Heap} {x qual : Str} {st : Stmt} {f : Addr} {fd : FuncData} {N ps : List Str} {k : Nat} {sp : Sp} (F : L2.Fun K x qual st f fd) (S : FnScope N ps (defScope st))
    (len : ∀ (vs : List V) (H : Hp) (Q : VK) (E : XK), sp vs H Q E → vs.length = ps.length)
    (hbody : ∀ (cdv : Value) (A : Around) (outer : List Env) (s : Shared) (H : Hp) (vs : List V) (Q : VK) (E : XK), Room k (A.deeper (PyProof.Rows.envOfC qual (defScope st) s.heap.objs.size f cdv)) → sp vs H Q E →
      ∃ t, PSsn n (cxOf CX0 P w K mg base N qual (defScope st) f cdv A outer s H E).nox (defBody st) t ∧ t { nx := fun _ H' => Q V.non H', rt := Q } (L2.start N vs) H) :
    FnOkN n P w K mg base CX0 (k + 1) f fd ps sp := by
  obtain ⟨oc, od, kV, doc, pm, an, cdv, ct, osl, rfl, lk, hcd⟩ := F.ex
  exact fn_ofN lk hcd S len fun A outer s H vs Q E hr hsp => by
    obtain ⟨t, h, q⟩ := hbody cdv A outer s H vs Q E hr hsp
    exact ⟨t, PSsn.nox h, q⟩
/-- in the place of F.okX: a def that may raise -/
theorem funXN {P : Program} {w : World} {K : PySem.W.Frag} {mg : Str → Option Value} {base : Heap} {x qual : Str} {st : Stmt} {f : Addr} {fd : FuncData} {N ps : List Str} {k : Nat} {sp : Sp} (F : L2.Fun K x qual st f fd) (S : FnScope N ps (defScope st))
    (len : ∀ (vs : List V) (H : Hp) (Q : VK) (E : XK), sp vs H Q E → vs.length = ps.length)
    (hbody : ∀ (cdv : Value) (A : Around) (outer : List Env) (s : Shared) (H : Hp) (vs : List V) (Q : VK) (E : XK), Room k (A.deeper (PyProof.Rows.envOfC qual (defScope st) s.heap.objs.size f cdv)) → sp vs H Q E →
      ∃ t, PSsn n (cxOf (L2.CX P w) P w K mg base N qual (defScope st) f cdv A outer s H E) (defBody st) t ∧ t { nx := fun _ H' => Q V.non H', rt := Q } (L2.start N vs) H) :
    FnOkN n P w K mg base (L2.CX P w) (k + 1) f fd ps sp := by
  obtain ⟨oc, od, kV, doc, pm, an, cdv, ct, osl, rfl, lk, hcd⟩ := F.ex
  exact fn_ofN lk hcd S len fun A outer s H vs Q E hr hsp => hbody cdv A outer s H vs Q E hr hsp
end TokMore

/-! ### a law's end where the tokens given out before are told -/
section TokHead
open PySem.W
theorem lay_ints {R : WRecords} {cl : Str → Option Addr} {P : Params} {ord : List DictEntry → List DictEntry} : ∀ (ns : List Int) (s : Shared) (r : List Value × Shared), layAllW R cl P ord (ns.map WData.int) s = some r → s.toks ≤ r.2.toks
  | [], s, r, h => by
    rw [List.map_nil, layAllW.eq_1] at h
    cases h
    exact Nat.le_refl _
  | i :: ns, s, r, h => by
    rw [List.map_cons] at h
    obtain ⟨a, q, h1, h2, rfl⟩ := layAllW_cons h
    rw [layW.eq_3] at h1
    cases h1
    exact Nat.le_trans (Nat.le_succ _) (lay_ints ns _ q h2)
theorem lay_law {R : WRecords} {cl : Str → Option Addr} {P : Params} {ord : List DictEntry → List DictEntry} {ns : List Int} {s : Shared} {r : List Value × Shared} (h : layAllW R cl P ord [WData.list (ns.map WData.int)] s = some r) : s.toks ≤ r.2.toks := by
  obtain ⟨a, q, h1, h2, rfl⟩ := layAllW_cons h
  rw [layAllW.eq_1] at h2
  cases h2
  obtain ⟨q, h3, rfl⟩ := layW_list h1
  exact lay_ints ns s q h3
/-- the law's walk, from states where at least n tokens have been given out -/
def WalkN (n m : Nat) (l : OpenLaw) (q : Program) (loose : List Str) (XP : (Str → Option Value) → Heap → Prop) (YP : World → Heap → Prop) (d : DefRec) : Prop :=
  ∀ (w : World) (s₀ s₁ : Shared) (mg mb : Str → Option Value) (fa : Addr) (o : Obj) (pm cd doc : Value) (a : Addr) (vs : List Value) (ns : List Int), n ≤ s₁.toks → Ground q loose [] XP w s₀ mg mb s₁.heap → YP w s₁.heap → s₁.heap.get? fa = some o →
    o.data = Data.func (Calls.docDef d.name d.params d.body d.scope pm cd doc) → s₁.heap.CodeRec cd d.name → mg d.name = some (.ref fa) → s₁.heap.get? a = some { cls := .type "list", data := .seq vs.toArray } → IntsAre vs ns → ns.length ≤ m → s₁.gens = #[] →
    codeAny (model l.prog w) callerA (.call (.ref fa) { pos := [.ref a] }) (fun r s' => r = .ok (.ret (.bool true)) ∧ OldK s₁.heap s'.heap ∧ s'.os = s₁.os ∧ AllBare s'.gens) s₁
theorem holds_lawT {l : OpenLaw} {q : Program} {loose : List Str} {Xt : Shared → Bool} {XP : (Str → Option Value) → Heap → Prop} {α : Type} {Yf : Shared → α} {Ya : World → α} {YP : World → Heap → Prop} {d : DefRec} {N n m : Nat}
    (hn : l.most = some m) (hdf : d.params.defaults = [])
    (left : LeftO l.row.prog q loose Xt (fun s => (Yf s, Nat.ble n s.toks)) (fun w => (Ya w, true)) N)
    (hY : ∀ w s, Yf s = Ya w → YP w s.heap)
    (hYk : ∀ w h h', YP w h → (∀ b o, h.get? b = some o → h'.get? b = some o) → YP w h')
    (hX : ∀ s, Xt s = true → XP (s.heap.nsMap mainGlobals) s.heap)
    (hXk : ∀ mg h h', XP mg h → (∀ b o, h.get? b = some o → h'.get? b = some o) → XP mg h')
    (hdef : defOf q l.row.name = some (d, []))
    (hp : l.row.prog.theDef l.row.name = some (d.params, d.body, d.scope))
    (hk : kwWritten? d.params.kwonlyargs d.params.kw_defaults = some [])
    (hRf : ∀ s, Xt s = true → RecFacts l.row.records s.heap)
    (hwr : (!l.row.writes || List.isEmpty l.row.records) = true) (k1 : l.row.wellSaid = true)
    (ok : (chainsOk q && opensWell l.row.prog && (frees l.row.toRowW && l.row.within.isEmpty)) = true)
    (hb : l.row.prog.bare) (hw : l.row.promised) (call : WalkN n m l q loose XP YP d) : l.row.Holds := by
  refine ⟨k1, hw, ?_⟩
  obtain ⟨ok, k5⟩ := Bool.and_eq_true_iff.mp ok
  obtain ⟨hch, o1⟩ := Bool.and_eq_true_iff.mp ok
  obtain ⟨k5, k6⟩ := Bool.and_eq_true_iff.mp k5
  obtain ⟨hsame, hu, ha, hap, hm⟩ := frees_parts k5
  refine ⟨⟨hb, o1, by show List.map l.row.maker l.row.makers = []; rw [hm]; rfl⟩, RowW.promised.witness hw, fun w => ⟨(LeftO.behind left hX hch w).1, fun s' hs' => ?_⟩⟩
  obtain ⟨s₀, hf, hg0, s, hT, hz, hgens, hg, G00, y⟩ := (LeftO.behind left (XP := fun mg h => XP mg h ∧ RecFacts l.row.records h) (fun s hs => ⟨hX s hs, hRf s hs⟩) hch w).2 s' hs'
  have y1 : Yf s = Ya w := congrArg Prod.fst y
  have y2 : Nat.ble n s.toks = true := congrArg Prod.snd y
  have G0 : Ground q loose [] XP w s (s.heap.nsMap mainGlobals) (s.heap.nsMap builtinsNs) s.heap := ⟨G00.T, G00.B, G00.D, G00.TE, G00.TD, G00.W, G00.X.1, G00.cls, G00.has, G00.apart, G00.once, G00.K⟩
  have RF := G00.X.2
  have pin : ∀ x : Str, (x ∈ if l.row.pinned = true then [l.row.name] else []) → isTheDefsW l.row.prog s.heap x := by
    intro x hx
    have e : x = l.row.name := by
      by_cases c : l.row.pinned = true
      · rw [if_pos c] at hx
        simpa using hx
      · rw [if_neg c] at hx
        cases hx
    rw [e]
    exact pinned_of_view hg G0 hdef hp hk
  refine ⟨s₀, hf, hg0, s, hT, pin, RF.1, RF.2.1, ?_⟩
  have hgens := Array.eq_empty_of_size_eq_zero (beq_iff_eq.mp hgens)
  have G := RecFacts.ground RF G0
  refine ClaimW.callFrom_of_specG hz hgens fun args hpre hlay ord hord => ?_
  obtain ⟨⟨vs, s₁⟩, hlaid⟩ := Option.isSome_iff_exists.mp (layAllW_isSome G.has args l.row.args s (pre_splitW hpre).1)
  have keeps := layAllW_keeps args s (vs, s₁) hlaid
  have hal := layAllW_rest args s (vs, s₁) hlaid
  obtain ⟨as, hrd, hin, hold⟩ := reads_layAllW hord args s (vs, s₁) hlaid hlay s₁.heap (fun _ _ e => e)
  have L : Laid l.row.records w s s₁ args vs as := ⟨⟨ord, hord, hlaid⟩, hrd, hin, hold, keeps, hal.1.trans hgens, hal.2.2.1⟩
  have G₁ := Ground.keeps hXk G keeps
  obtain ⟨fa, o, pm, cd, doc, dV, kV, h1, h2, h3, h4, h5⟩ := Ground.fn G₁ hdef
  have hwl := Laid.well L
  obtain ⟨a, xs, ns, rfl, rfl, hobj, hints, hlen⟩ := Att.script_of hn hpre hwl
  have tk : n ≤ s₁.toks := Nat.le_trans (Nat.le_of_ble_eq_true y2) (lay_law hlaid)
  cases Dflts.none h5 hdf
  cases Dflts.noKw h5
  have run := call w s s₁ _ _ fa o pm cd doc a xs ns tk G₁ (hYk w s.heap s₁.heap (hY w s y1) keeps) h2 (fd_plain h3) h4 (defOf_name hdef ▸ h1) hobj hints hlen L.gens
  have hi := ident_freeW hu ha hap
  have hwi := List.isEmpty_iff.mp k6
  refine ⟨_, s₁, hlaid, ?_⟩
  have hfn : (s.heap.nsMap mainGlobals) l.row.name = some (.ref fa) := h1
  have fin : ∀ r s', (r = Except.ok (Flow.ret (.bool true)) ∧ OldK s₁.heap s'.heap ∧ s'.os = s₁.os ∧ AllBare s'.gens) → GoodWG l.row.claim (classAt s.heap) (ExcName.means s.heap) [WData.list (ns.map WData.int)] s₁ r s' := by
    rintro r s' ⟨rfl, q2, q3, q4⟩
    exact ⟨Or.inl ⟨.bool true, .bool true, [], rfl, fun _ => rfl, ReadsW.bool true, Att.post_true l _, fun _ => ⟨List.Pairwise.nil, fun _ hm => nomatch hm⟩⟩, q2, q3, q4⟩
  have good : ∀ r s', GoodWG l.row.claim (classAt s.heap) (ExcName.means s.heap) [WData.list (ns.map WData.int)] s₁ r s' → l.row.claim.Ends s [WData.list (ns.map WData.int)] [.ref a] s₁ r s' ∧ s'.os = s.os ∧ AllBare s'.gens ∧ (l.row.writes = true → namesKept l.row.claim.prog l.row.keeps s.heap s'.heap ∧ ∀ x : Str × List (Str × WShape), x ∈ l.row.claim.records → ∀ a : Addr, classAt s.heap x.fst = some a → recordClass s'.heap a x.fst (List.map (fun x => x.fst) x.snd) = true) := by
    intro r s' g
    have z := GoodWG.laid hsame hwi hi L g
    exact ⟨z.1, z.2.1, z.2.2, fun q => ⟨namesKept_of hT hg l.row.keeps keeps g.2.1.old, noTable hwr q⟩⟩
  have base : wpAny (model l.prog w) callerA (PySem.call (.ref fa) [.ref a]) (fun v s' => GoodWG l.row.claim (classAt s.heap) (ExcName.means s.heap) [WData.list (ns.map WData.int)] s₁ (.ok (.ret v)) s') (fun e s' => GoodWG l.row.claim (classAt s.heap) (ExcName.means s.heap) [WData.list (ns.map WData.int)] s₁ (.error e) s') s₁ := by
    refine enter_call (codeAny_mono run ?_)
    intro r s' q
    obtain ⟨rfl, q⟩ := q
    exact fin _ _ ⟨rfl, q⟩
  refine wpAny_bind (wpAny_nsGet G₁.T.g ?_)
  rw [hfn]
  exact wpAny_bind (wpAny_mono base (fun v s' g => wpAny_pure ⟨.ret v, rfl, good _ _ g⟩) fun e s' g => good _ _ g)
end TokHead
theorem recFacts_nil (h : Heap) : PySem.W.RecFacts [] h := by
  refine ⟨fun _ hx => (nomatch hx), fun _ hx => (nomatch hx), ?_, ?_⟩
  · intro x y a hx
    exact absurd (show (none : Option (List (Str × PySem.W.WShape))).isSome = true from hx) (by decide)
  · intro x fs hx
    exact absurd hx (by rintro ⟨⟩)

/-! ### the law's call, from a state where at least n tokens have been given out -/
section TokCall
open PySem.W
theorem law_callN {n : Nat} {P : Program} {w : World} {K : PySem.W.Frag} {mg mb : Str → Option Value} {CX : CXT} {k : Nat} {fa a : Addr} {fd : FuncData} {x : Str} {sp : Sp} {s₁ : Shared} {vs : List Value} {ns : List Int}
    (htk : n ≤ s₁.toks) (KX : K.In s₁.heap) (hns : s₁.heap.Ns mainGlobals mg) (hb : s₁.heap.Ns builtinsNs mb) (hbb : ∀ x : Str, x ≠ "__name__" → mb x = bootBuiltins x) (hlim : s₁.heap.NoLimit) (hg : s₁.gens = #[])
    (ha : s₁.heap.get? a = some { cls := .type "list", data := .seq vs.toArray }) (hi : IntsAre vs ns) (hl : ns.length ≤ sizeLine) (hr : Room k callerA)
    (F : ∀ base : Heap, K.In base → base.Ns mainGlobals mg → FnOkN n P w K mg base CX k fa fd [x] sp)
    (hbind : ∀ (s : Shared) (u : Value), BindsTo s fd { pos := [u] } [(x, u)])
    (hsp : ∀ H : Hp, Only H → SqL K H a (ns.map V.int) → sp [V.ref a] H (fun v _ => v = V.bl true) fun _ _ _ => False)
    (hCX : ∀ (H : Hp) (e : Value) (s' : Shared), CX [] H s₁ (fun _ _ _ => False) e s' → False) :
    codeAny (model P w) callerA (.call (.ref fa) { pos := [.ref a] }) (fun r s' => r = .ok (.ret (.bool true)) ∧ OldK s₁.heap s'.heap ∧ s'.os = s₁.os ∧ AllBare s'.gens) s₁ := by
  have rv := vals_ints hi
  have lenV := IntsAre.length hi
  have core : ∀ H : Hp, Only H → SqL K H a (ns.map V.int) → HOk P w H s₁.heap → (∀ b, H b ≠ none → b = a) → (H a ≠ none → K.lookup a = none) →
      codeAny (model P w) callerA (.call (.ref fa) { pos := [.ref a] }) (fun r s' => r = .ok (.ret (.bool true)) ∧ OldK s₁.heap s'.heap ∧ s'.os = s₁.os ∧ AllBare s'.gens) s₁ := by
    intro H hO hS hok hA hK
    have noA : ∀ {b : Addr} {o : Obj} {es : Array DictEntry} {ep : Nat}, s₁.heap.get? b = some o → o.data = .dict es ep → H b = none := by
      intro b o es ep e d
      by_cases q : H b = none
      · exact q
      · have e' := hA b q
        subst e'
        rw [ha] at e
        cases e
        cases d
    have nsK : ∀ {b : Addr} {m : Str → Option Value}, s₁.heap.Ns b m → (hidT s₁.heap H).Ns b m := by
      rintro b m ⟨o, es, ep, e, d, r⟩
      exact ⟨o, es, ep, hidT_get e (noA e d), d, r⟩
    have hKb : K.In (hidT s₁.heap H) := by
      intro b o e
      refine hidT_get (KX b o e) ?_
      by_cases q : H b = none
      · exact q
      · have e' := hA b q
        subst e'
        rw [hK q] at e
        cases e
    have hM : Mod K mg (hidT s₁.heap H) := ⟨hKb, nsK hns, ⟨mb, nsK hb, hbb⟩, by
      obtain ⟨mc, h1, h2⟩ := hlim
      exact ⟨mc, nsK h1, h2⟩⟩
    have e0 : Env0 P w K mg (hidT s₁.heap H) callerA [] s₁ H := ⟨rfl, hM, fun b o e => of_hidT e, Nat.le_of_eq (hidT_size s₁.heap H), trivial, fun b hb => (nomatch hb), hok, AllBare.of_eq hg⟩
    refine codeAny_mono ((F (hidT s₁.heap H) hKb (nsK hns)).run callerA [] s₁ H { pos := [.ref a] } [.ref a] [V.ref a] (fun v _ => v = V.bl true) (fun _ _ _ => False) htk hr e0 (hbind s₁ (.ref a)) (Paired.cons rfl Paired.nil) (hsp H hO hS)) ?_
    intro r s' h
    cases r with
    | error e => exact (hCX H e s' h).elim
    | ok fl =>
      cases fl with
      | next => exact h.elim
      | brk => exact h.elim
      | cont => exact h.elim
      | ret u =>
        obtain ⟨v, H', os, bare, un, hok', r', q⟩ := h
        subst q
        cases (show u = .bool true from r')
        refine ⟨rfl, OldK.of_keep fun b o e => ?_, os, bare⟩
        by_cases q : H b = none
        · exact un.keep b o e q (fun z => nomatch z) (fun z => nomatch z)
        · rcases hO b with z | ⟨ob, xs, z⟩
          · exact absurd z q
          · have z2 := un.frzs b ob (.lst xs) z
            have e1 := (hok b (.frz ob (.lst xs)) z).1
            have e2 := (hok' b (.frz ob (.lst xs)) z2).1
            rw [e] at e1
            cases e1
            exact e2
  by_cases hk : K.lookup a = none
  · refine core (fun b => if b = a then some (.frz { cls := .type "list", data := .seq vs.toArray } (.lst (ns.map V.int))) else none) ?_ ?_ ?_ ?_ (fun _ => hk)
    · intro b
      by_cases hb : b = a
      · exact Or.inr ⟨_, _, if_pos hb⟩
      · exact Or.inl (if_neg hb)
    · exact Or.inl (Or.inr ⟨_, if_pos rfl⟩)
    · intro b u z
      by_cases hb : b = a
      · have z' := (if_pos hb).symm.trans z
        cases z'
        subst hb
        exact ⟨ha, ⟨by rw [List.length_map]; exact hl, vs, 0, rv, ha⟩⟩
      · have z' := (if_neg hb).symm.trans z
        cases z'
    · intro b z
      by_cases hb : b = a
      · exact hb
      · exact absurd (if_neg hb) z
  · obtain ⟨o, hk⟩ := Option.ne_none_iff_exists'.mp hk
    have e := KX a o hk
    rw [ha] at e
    cases e
    exact core (fun _ => none) (fun _ => Or.inl rfl) (Or.inr ⟨_, vs.toArray, 0, hk, rfl, rfl, rfl, by simp only [List.size_toArray]; rw [lenV]; exact hl, rv⟩) (fun b u z => nomatch z) (fun b z => absurd rfl z) (fun z => absurd rfl z)
theorem walkN_of {n : Nat} {l : OpenLaw} {m k : Nat} {q : Program} {loose : List Str} {XP : (Str → Option Value) → Heap → Prop} {YP : World → Heap → Prop} {d : DefRec} {K : Params → PySem.W.Frag} {CX : World → CXT} {sp : World → Sp} {x : Str}
    (hm : m ≤ sizeLine) (hr : Room k callerA) (hY : ∀ w h, YP w h → (K w.params).In h)
    (F : ∀ (w : World) (mg : Str → Option Value) (fa : Addr) (h : Heap), (K w.params).In h → h.Ns mainGlobals mg → mg d.name = some (.ref fa) →
      ∃ fd, (∀ (s : Shared) (u : Value), BindsTo s fd { pos := [u] } [(x, u)]) ∧ ∀ base : Heap, (K w.params).In base → base.Ns mainGlobals mg → FnOkN n l.prog w (K w.params) mg base (CX w) k fa fd [x] (sp w))
    (hsp : ∀ (w : World) (H : Hp) (a : Addr) (ns : List Int), ns.length ≤ m → Only H → SqL (K w.params) H a (ns.map V.int) → sp w [V.ref a] H (fun v _ => v = V.bl true) fun _ _ _ => False)
    (hCX : ∀ (w : World) (H : Hp) (s : Shared) (e : Value) (s' : Shared), CX w [] H s (fun _ _ _ => False) e s' → False) :
    WalkN n m l q loose XP YP d := by
  intro w s₀ s₁ mg mb fa o pm cd doc a vs ns htk G Y ho hd hcd hmg hobj hints hlen hg
  have KX := hY w s₁.heap Y
  obtain ⟨fd, hb, hF⟩ := F w mg fa s₁.heap KX G.T.g hmg
  exact law_callN htk KX G.T.g G.T.b G.T.builtins G.T.nolimit hg hobj hints (Nat.le_trans hlen hm) hr hF hb (fun H hO hS => hsp w H a ns hlen hO hS) (fun H e s' => hCX w H s₁ e s')
end TokCall

section TokPar
variable {X : Cx} {n : Nat}
theorem psn_par {pos : Pos} {i j : Nat} {x y : Str} {a b : Expr} {ta : TA} {px py pt : Pos} {kt k2 pt2} (hc : X.calm = true) (hN : X.N.Nodup) (hi : X.N[i]? = some x) (hj : X.N[j]? = some y) (hij : i ≠ j)
    (hx : X.env.scope.names.lookup x = some .local) (hy : X.env.scope.names.lookup y = some .local) (ha : PAn n X [a, b] ta)
    (hw : swappedStores [.Tuple [.Name x px, .Name y py] kt pt] (.Tuple [a, b] k2 pt2) X.env = pure (some [x, y]))
    (hs : swapsWithSole [.Tuple [.Name x px, .Name y py] kt pt] (.Tuple [a, b] k2 pt2) pos.line X.env = pure false := by rfl) :
    PSn n X (.Assign [.Tuple [.Name x px, .Name y py] kt pt] (.Tuple [a, b] k2 pt2) pos) (tPar i j ta) := by
  intro pins s σ H D h0 I h
  rw [exec_Assign_arm]
  refine wpAny_bind (wpAny_standAt ?_)
  rw [hs]
  refine wpAny_bind (wpAny_pure ?_)
  rw [if_neg (by decide)]
  refine wpAny_bind (Tuple_ (thn (ha _ pins s σ H _ h0 I h) fun us s1 ⟨vs, H1, I1, r1, q1⟩ => ?_))
  obtain ⟨v, w, e1, q1⟩ := q1
  subst e1
  obtain ⟨u1, u2, rfl, rv, rw'⟩ : ∃ u1 u2, us = [u1, u2] ∧ RelV v u1 ∧ RelV w u2 := by
    cases r1 with
    | cons p q =>
      cases q with
      | cons p' q' =>
        cases q'
        exact ⟨_, _, rfl, p, p'⟩
  refine wpAny_newObj_type ?_ (by show 2 ≤ sizeLine; decide)
  have I2 : Inv X pins σ H1 { s1 with heap := s1.heap.push { cls := .type "tuple", data := .seq [u1, u2].toArray } } := I1.kept (t' := s1.toks) fun b o e => Heap.get?_push_of_some _ e
  rw [hw]
  refine wpAny_bind (wpAny_pure ?_)
  show wpAny (model X.prog X.w) X.A (do rule "assign.swapped-stores"; let items ← unpackItems (.ref s1.heap.objs.size) 2 none; assignInOrder [fun v => bindName X.env y v, fun v => bindName X.env x v] items.reverse; pure Flow.next) _ _ _
  refine wpAny_bind (wpAny_rule (wpAny_bind (unpackItems_tuple (items := #[u1, u2]) (I.ok.hd hc) (IsTup.new s1.heap _) fun h' hx' => ?_)))
  have I3 := I2.kept (h' := h') (t' := s1.toks) fun b o e => hx' b o (Nat.ne_of_lt (Heap.lt_size e)) e
  show wpAny _ _ (assignInOrder [fun v => bindName X.env y v, fun v => bindName X.env x v] [u2, u1] >>= fun _ => pure Flow.next) _ _ _
  refine wpAny_bind (assignInOrder_cons (wpAny_bindName (store_ok I3 hN hj (.inl hy) rw' (fun s2 I4 => ?_) (.inr hy))))
  refine assignInOrder_cons (wpAny_bindName (store_ok I4 hN hi (.inl hx) rv (fun s3 I5 => assignInOrder_nil (wpAny_pure ?_)) (.inr hx)))
  rw [List.set_comm _ _ (Ne.symm hij)] at I5
  exact ⟨_, H1, I5, q1⟩
end TokPar

/-! ### list comprehensions with a lower bound of the tokens -/
section TokLc
variable {X : Cx} {n : Nat}
/-- the same with what is known of the tokens -/
theorem tkF {α : Type} {t : Sem α} {Q Q' : α → Shared → Prop} {M : Model} {A : Around} {E : Value → Shared → Prop} {s : Shared} (b : n ≤ s.toks) (h : wpAny M A t Q (fun _ _ => False) s) (k : ∀ a s', n ≤ s'.toks → Q a s' → Q' a s') : wpAny M A t Q' E s :=
  wpAny_mono (wpAny_toks h) (fun a s' z => k a s' (Nat.le_trans b z.1) z.2) fun _ _ z => z.2.elim
theorem tkE {α : Type} {t : Sem α} {Q Q' : α → Shared → Prop} {M : Model} {A : Around} {E : Value → Shared → Prop} {s : Shared} (b : n ≤ s.toks) (h : wpAny M A t Q E s) (k : ∀ a s', n ≤ s'.toks → Q a s' → Q' a s') : wpAny M A t Q' E s :=
  wpAny_mono (wpAny_toks h) (fun a s' z => k a s' (Nat.le_trans b z.1) z.2) fun _ _ z => z.2
def PTsn (n : Nat) (X : Cx) (ifs : List Expr) (t : TT) : Prop := ∀ (pins : List (Addr × Obj)) (s : Shared) (σ : L2.St) (H : Hp) (Q : Bool → Hp → Prop), n ≤ s.toks → L2.Inv X pins σ H s → t σ H Q → wpAny (model X.prog X.w) X.A (forIn ifs true fun c r => if r = true then do
    let ok ← PySem.isTrue c X.env (eval c X.env)
    pure (ForInStep.yield ok)
  else pure (ForInStep.yield r)) (TP X pins σ Q) X.xe s
theorem ptsn_of {ifs : List Expr} {t : TT} (h : PTs X ifs t) : PTsn n X ifs t := fun pins s σ H Q _ I q => h.run pins s σ H Q I q
theorem ptsn_one {c : Expr} {t : TT} (h : PTn n X c t) : PTsn n X [c] t := fun pins s σ H Q h0 I q => wpAny_tests_one (h pins s σ H Q h0 I q)
theorem lcn_core {pins : List (Addr × Obj)} {s : Shared} {σ : L2.St} {H : Hp} {Q : VK} {elt tg iter : Expr} {ifs : List Expr} {scope : Scope} {own : List (Str × Nat)} {pos pos' : Pos} {wi : TI} {g : TG} {tt : TT} {te : TE} {use : Option (Value → Sem Unit)} {Qf : Value → Shared → Prop} (h0 : n ≤ s.toks)
    (hc : X.calm = true) (hN : X.N.Nodup) (I : L2.Inv X pins σ H s) (hi : PI X tg iter wi) (ok : BlkOk X.N X.env.scope scope own)
    (hg : ∀ s H C cl fp, PG (X.blk s H scope (compEnvC scope cl C X.env) fp) tg g) (ht : ∀ s H C cl fp, PTsn n (X.blk s H scope (compEnvC scope cl C X.env) fp) ifs tt)
    (he : ∀ s H C cl fp, PEn n (X.blk s H scope (compEnvC scope cl C X.env) fp) elt te) (hs : ∀ x, foldedSetIterable iter X.env x = pure x)
    (h : tLc wi g tt te (own.map (·.2)) σ H Q)
    (fin : ∀ D C s' m H', n ≤ s'.toks → L2.Inv X pins σ H' s' → Q (.ref D) H' → s'.heap.Ns C m → FpOk X pins H' C → compPost (model X.prog X.w) X.A X.xe use Qf (.ref D) C (.ok .next) s') :
    wpAny (model X.prog X.w) X.A (comprehension (.ListComp elt [⟨tg, iter, ifs, 0⟩] scope pos) scope X.env pos' (newList []) false (eval iter X.env) use) Qf X.xe s := by
  have fr : ∀ y ∈ scope.names, y.2 = .free → ∃ c, X.env.cells.lookup y.1 = some c := fun y hy e =>
    (ok.free y hy e).elim (fun k => I.ok.has _ (.inl k)) (fun k => I.ok.has _ (.inr k))
  refine wpAny_comprehension_free (use := use) rfl hs (closure_ok fr) ok.kind (fun y hy e => by rw [ok.uniq y hy, e]) (tkE h0 (hi.run pins s σ H _ I h) fun _ s1 b1 hx => tkE b1 hx fun _ s2 b2 z => ?_)
  obtain ⟨it, fp, tn, J, Ha, rfl, Ia, T, sta, fa, q⟩ := z
  refine wpAny_newObj_type (newEnv_comp ?_) (show 0 ≤ sizeLine by decide)
  generalize eD : s2.heap.objs.size = D
  obtain ⟨W, ⟨m0, w0⟩, turn⟩ := q D (Ia.hok.fresh (Nat.le_of_eq eD))
  generalize e3 : ({ s2 with heap := s2.heap.push { cls := .type "list", data := .seq ([] : List Value).toArray } } : Shared) = s3
  have b3 : n ≤ s3.toks := by rw [← e3]; exact b2
  have Ib : L2.Inv X pins σ (upd Ha D (.lst [])) s3 := by
    subst e3
    refine Ia.laid (t' := s2.toks) (fun b o e => Heap.get?_push_of_some _ e) (Nat.le_of_eq eD) ⟨Nat.zero_le _, [], 0, .nil, ?_⟩
    rw [← eD]
    exact Heap.get?_push_size _ rfl
  have hp3 : s3.heap = s2.heap.push { cls := .type "list", data := .seq ([] : List Value).toArray } := by rw [← e3]
  have lo : ∀ b ∈ fp, b < s2.heap.objs.size := fun b hb => (T.obj _ _ sta b hb).elim fun o z => Heap.lt_size z.1
  have fb : ∀ b ∈ fp, FpOk X pins (upd Ha D (.lst [])) b ∧ b < s3.heap.objs.size := fun b hb => by
    have l1 := lo b hb
    refine ⟨⟨?_, (fa b hb).2⟩, by rw [hp3, Heap.size_push]; exact Nat.lt_succ_of_lt l1⟩
    rw [upd_ne (by rw [← eD]; exact Nat.ne_of_lt l1)]
    exact (fa b hb).1
  have stb : tn 0 s3.heap := T.keep _ _ _ sta fun b _ o e => by rw [hp3]; exact Heap.get?_push_of_some _ e
  have Ic := block_start Ib ok hN fb
  generalize eL : cellsFrom (s3.heap.objs.size + 1) scope.names (cloFrom X.env.cells scope.names []) = cl at Ic
  have pg := hg s3 (upd Ha D (.lst [])) s3.heap.objs.size cl fp
  have pt := ht s3 (upd Ha D (.lst [])) s3.heap.objs.size cl fp
  have pe := he s3 (upd Ha D (.lst [])) s3.heap.objs.size cl fp
  show codeAny _ _ (.compStart _ 0 (.ref it) (.ref D) (compEnvC scope cl s3.heap.objs.size X.env)) (compPost (model X.prog X.w) X.A X.xe use Qf (.ref D) s3.heap.objs.size) { s3 with heap := pushCells (s3.heap.push { cls := .type "dict", data := .dict #[] }) scope.names }
  have nfp : ∀ b ∈ fp, (upd Ha D (.lst [])) b = none := fun b hb => (fb b hb).1.1
  generalize eC : compEnvC scope cl s3.heap.objs.size X.env = ce at Ic pg pt pe ⊢
  have cL : ce.locals = s3.heap.objs.size := by rw [← eC]; rfl
  generalize upd Ha D (.lst []) = Hb at Ib Ic pg pt pe w0 nfp fb
  generalize e4 : ({ s3 with heap := pushCells (s3.heap.push { cls := .type "dict", data := .dict #[] }) scope.names } : Shared) = s4 at Ic ⊢
  have b4 : n ≤ s4.toks := by rw [← e4]; exact b3
  have st4 : tn 0 s4.heap := T.keep _ _ _ stb fun b _ o e => by rw [← e4]; exact pushCells_keeps _ _ _ _ (Heap.get?_push_of_some _ e)
  have stat : ∀ {σ' : L2.St} {H' : Hp} {s' : Shared}, L2.Inv (X.blk s3 Hb scope ce fp) [] σ' H' s' → (∀ b ∈ fp, H' b = none) → ∀ b ∈ fp, FpOk (X.blk s3 Hb scope ce fp) [] H' b := fun Iz hz b hb =>
    ⟨hz b hb, (Iz.ok.exf b hb).1, Iz.ok.exfs b hb, .inl hb, fun x c e => (Iz.ok.exf b hb).2 x c e, fun p hp => absurd (show p ∈ ([] : List (Addr × Obj)) ++ [] from hp) (by simp)⟩
  refine codeAny_compStart_list ?loop (T.self X.A 0 _ _ _ st4 ?loop)
  refine compLoop_any (fun k s' => n ≤ s'.toks ∧ ∃ i H', L2.Inv (X.blk s3 Hb scope ce fp) [] (wipe σ (own.map (·.2))) H' s' ∧ tn i s'.heap ∧ (∀ b ∈ fp, H' b = none) ∧ W i k H') ?_ m0 ⟨b4, 0, Hb, Ic, st4, nfp, w0⟩
  rintro k s5 ⟨b5, i, H5, I5, st5, n5, w5⟩
  rcases turn i k H5 w5 with ⟨stop, qq⟩ | ⟨go, Nx, hNx, step⟩
  · refine tkF b5 (T.done (X.blk s3 Hb scope ce fp) rfl rfl rfl hc i [] s5 _ H5 (fun _ _ => False) I5 (stat I5 n5) st5 stop) fun r s6 b6 z => ?_
    obtain ⟨rfl, I6⟩ := z
    have I7 : L2.Inv X pins σ H5 s6 := Ib.call' (ch := fp) I6.os I6.base I6.hok I6.bare fun b hb => ⟨(fb b hb).1.2.2.2.1, (fb b hb).1.2.1, (fb b hb).1.2.2.2.2.1, (fb b hb).1.2.2.2.2.2⟩
    have nC : H5 ce.locals = none := I6.free
    obtain ⟨m, hn, _⟩ := I6.loc
    have hn : s6.heap.Ns ce.locals m := hn
    rw [cL] at hn nC
    exact fin D s3.heap.objs.size s6 m H5 b6 I7 qq hn (Ib.fpOk (Nat.le_refl _) nC)
  · refine tkF b5 (T.item (X.blk s3 Hb scope ce fp) rfl rfl rfl hc i [] s5 _ H5 (fun _ _ => False) I5 (stat I5 n5) st5 go) fun r s6 b6 z => ?_
    obtain ⟨u, rfl, h6⟩ := z
    refine tkF b6 h6 fun _ s7 b7 z7 => ?_
    obtain ⟨x, H7, I7, r7, y7, st7, n7⟩ := z7
    have Ip := I7.pinned (stat I7 n7) (T.obj _ _ st7)
    refine tkF b7 (pg.run _ s7 _ H7 x u _ Ip r7 (step x H7 y7)) fun _ s8 b8 z8 => ?_
    obtain ⟨σ8, H8, I8, hw8, q8⟩ := z8
    refine tkF b8 (pt _ s8 σ8 H8 _ b8 I8 q8) fun b s9 b9 z9 => ?_
    obtain ⟨H9, I9, q9⟩ := z9
    have next : ∀ {s' : Shared} {H' : Hp}, n ≤ s'.toks → L2.Inv (X.blk s3 Hb scope ce fp) ([] ++ pinsAt fp s7.heap) σ8 H' s' → Nx H' → ∃ m, m < k ∧ n ≤ s'.toks ∧ ∃ i H', L2.Inv (X.blk s3 Hb scope ce fp) [] (wipe σ (own.map (·.2))) H' s' ∧ tn i s'.heap ∧ (∀ b ∈ fp, H' b = none) ∧ W i m H' := fun {s' H'} bz Iz nx => by
      obtain ⟨m', hm, w'⟩ := hNx H' nx
      have held : ∀ b ∈ fp, ∀ o, s7.heap.get? b = some o → s'.heap.get? b = some o ∧ H' b = none := fun b hb o e =>
        let z := Iz.pin (b, o) (List.mem_append_right _ (List.mem_append_right _ (mem_pinsAt hb e)))
        ⟨z.1, z.2.1⟩
      refine ⟨m', hm, bz, i + 1, H', (Iz.unpinned (pins := [])).weak (by rw [← hw8, wipe_length]) (fun j v e => ?_), T.keep _ _ _ st7 fun b hb o e => (held b hb o e).1, fun b hb => ?_, w'⟩
      · rw [← hw8] at e
        exact (wipe_some e).1
      · exact (T.obj _ _ st7 b hb).elim fun o z => (held b hb o z.1).2
    cases b with
    | false =>
      simp only [Bool.false_eq_true, if_false] at q9 ⊢
      exact next b9 I9 q9
    | true =>
      simp only [if_true] at q9 ⊢
      refine tkF b9 (pe _ s9 σ8 H9 _ b9 I9 q9) fun z s10 b10 z10 => ?_
      obtain ⟨yv, H10, I10, r10, acc, hD10, hz10, nx⟩ := z10
      refine tkE b10 (app_ok (X := X.blk s3 Hb scope ce fp) (Q := fun _ s' => ∃ H', L2.Inv (X.blk s3 Hb scope ce fp) ([] ++ pinsAt fp s7.heap) σ8 H' s' ∧ Nx H') I10 hD10 hz10 r10 fun s11 I11 => ⟨_, I11, nx⟩) fun _ s12 b12 z12 => ?_
      obtain ⟨H12, I12, nx12⟩ := z12
      exact next b12 I12 nx12
theorem psn_setLc {i : Nat} {y : Str} {py : Pos} {elt tg iter : Expr} {ifs : List Expr} {scope : Scope} {own : List (Str × Nat)} {pos spos : Pos} {wi : TI} {g : TG} {tt : TT} {te : TE} (hc : X.calm = true) (hN : X.N.Nodup) (hy : X.N[i]? = some y) (hyl : X.env.scope.names.lookup y = some .local)
    (hsw : swapsWith (.ListComp elt [⟨tg, iter, ifs, 0⟩] scope pos) (some (.Name y py)) spos.line X.env = pure true) (hi : PI X tg iter wi) (ok : BlkOk X.N X.env.scope scope own)
    (hg : ∀ s H C cl fp, PG (X.blk s H scope (compEnvC scope cl C X.env) fp) tg g) (ht : ∀ s H C cl fp, PTs (X.blk s H scope (compEnvC scope cl C X.env) fp) ifs tt)
    (he : ∀ s H C cl fp, PEn n (X.blk s H scope (compEnvC scope cl C X.env) fp) elt te) (hs : ∀ x, foldedSetIterable iter X.env x = pure x := by intro _; rfl) :
    PSn n X (.Assign [.Name y py] (.ListComp elt [⟨tg, iter, ifs, 0⟩] scope pos) spos) (tAsg (tLc wi g tt te (own.map (·.2))) (gName i)) := by
  intro pins s σ H D h0 I h
  rw [exec_Assign_Name_used _ _ _ _ hsw]
  refine wpAny_bind (wpAny_standAt (wpAny_bind ?_))
  have h : tLc wi g tt te (own.map (·.2)) σ H (fun x H1 => gName i x σ H1 D.nx) := h
  show wpAny _ X.A (do let _ ← comprehension _ scope X.env (firstIterPos [⟨tg, iter, ifs, 0⟩] pos) (newList []) false (eval iter X.env) (some (assign (.Name y py) X.env))) _ _ s
  refine wpAny_bind (thn (lcn_core (Qf := fun _ s' => SP X pins D .next s') h0 hc hN I hi ok hg (fun s H C cl fp => ptsn_of (ht s H C cl fp)) he hs h fun L C s' m H' _ I' q hn f => ?_) fun _ s' hq => wpAny_pure (wpAny_pure hq))
  show wpAny _ _ (assign (.Name y py) X.env (.ref L)) _ _ _
  refine wpAny_assign_Name (store_ok2 (v := V.ref L) I' hN hy (.inl hyl) rfl (fun s2 I2 ⟨a, sb, ha⟩ => ?_) (.inr hyl))
  obtain ⟨f0, f1, f2, f3, f4, f5⟩ := f
  have haC : C ≠ a := ha.elim (fun z => by rw [z]; exact f1) fun z e => f4 y a z e.symm
  refine ⟨m, hn.sameBut sb haC, fun h3 sb3 => ?_⟩
  exact ⟨_, H', I2.turned (t' := s2.toks) (fun b o hb e => (sb3.2 b hb).trans e) f0 f1 f3 f4 f5, q⟩
theorem pen_lc {elt tg iter : Expr} {ifs : List Expr} {scope : Scope} {own : List (Str × Nat)} {pos : Pos} {wi : TI} {g : TG} {tt : TT} {te : TE} (hc : X.calm = true) (hN : X.N.Nodup) (hi : PI X tg iter wi) (ok : BlkOk X.N X.env.scope scope own)
    (hg : ∀ s H C cl fp, PG (X.blk s H scope (compEnvC scope cl C X.env) fp) tg g) (ht : ∀ s H C cl fp, PTsn n (X.blk s H scope (compEnvC scope cl C X.env) fp) ifs tt)
    (he : ∀ s H C cl fp, PEn n (X.blk s H scope (compEnvC scope cl C X.env) fp) elt te) (hs : ∀ x, foldedSetIterable iter X.env x = pure x := by intro _; rfl) :
    PEn n X (.ListComp elt [⟨tg, iter, ifs, 0⟩] scope pos) (tLc wi g tt te (own.map (·.2))) := by
  intro pins s σ H Q h0 I h
  rw [eval_ListComp]
  refine lcn_core h0 hc hN I hi ok hg ht he hs h fun D C s' m H' _ I' q hn f => ⟨m, hn, fun h'' sb => ?_⟩
  obtain ⟨f0, f1, f2, f3, f4, f5⟩ := f
  exact ⟨V.ref D, H', I'.turned (t' := s'.toks) (fun b o hb e => (sb.2 b hb).trans e) f0 f1 f3 f4 f5, rfl, q⟩
end TokLc

section TokProp
variable {X : Cx} {n : Nat}
theorem pen_prop {CX : CXT} {k : Nat} {C p g : Addr} {f : Str} {fd : FuncData} {ps : List Str} {sp : Sp} {dvs : List V} {ds : List Value} {E : XK} {e : Expr} {pos : Pos} {ta : TE} (he : PEn n X e ta) (c : Cls X.K C) (hp : PropOf X.K C f p g) (F : FnOk X.prog X.w X.K X.mg X.base CX k g fd ps sp) (hr : Room (k + 1) X.A) (hb : Binds X.K fd ps ds) (hd : Vals dvs ds) (hx : Passes CX X.nox E)
    (hab : attributeBase e f X.env (eval e X.env) = eval e X.env) : PEn n X (.Attribute e f pos) (tProp C sp dvs E ta) := by
  intro pins s σ H Q h0 I h
  refine attr_of hab (thn (he pins s σ H _ h0 I h) fun u s1 z => ?_)
  obtain ⟨x, H1, I1, rx, a, dx, fs, rfl, ea, q⟩ := z
  cases rx
  exact getprop_ok I1 ea c hp F hr hb hd hx q
end TokProp

theorem psn_try_mix {n : Nat} {X : Cx} {body : List Stmt} {hds : List ExceptHandler} {l : List Cls1} {pos : Pos} {tb : WX → TS} (hs : X.stack = X.env :: X.outer) (hf : X.env.frame = some X.env.locals) (hN : X.N.Nodup) (hne : hds ≠ [])
    (hb : ∀ (W : WX) (pn : List (Addr × Obj)) (xe : Value → Shared → Prop), Takes (X.tr pn xe) W → PassesOwn (model X.prog X.w) X.A X.env xe → PSsn n (X.tr pn xe) body (tb W))
    (hh : ClsOk X hds l) : PSn n X (.Try body hds [] [] pos) (fun D σ H => tb (wMix X.K D l) D σ H) := by
  obtain ⟨h₀, hd', rfl⟩ : ∃ h t, hds = h :: t := by
    cases hds with
    | nil => exact absurd rfl hne
    | cons h t => exact ⟨h, t, rfl⟩
  refine fun pins s σ H D h0 I h => wpAny_Try_except ?_
  have ok := I.ok
  refine wpAny_mono ((hb (wMix X.K D l) (X.pn ++ pins) (fun e s₁ => wpAny (model X.prog X.w) X.A (noteFrame e X.env) (fun _ s₂ => wpAny (model X.prog X.w) X.A (setFlight e none) (fun _ s₃ =>
    wpAny (model X.prog X.w) X.A (handleBy e X.env (h₀ :: hd')) (SP X pins D) X.xe s₃) X.xe s₂) X.xe s₁) (fun u s' xx => ?_) PassesOwn.looking) [] s σ H D h0 (I.toTry _) h) (fun f s1 g => ?_) (fun _ _ he => he)
  case refine_2 =>
    cases f with
    | next => exact let ⟨σ', H', J, q⟩ := g; wpAny_execs_nil ⟨σ', H', J.ofTry ok, q⟩
    | brk => exact let ⟨σ', H', J, q⟩ := g; ⟨σ', H', J.ofTry ok, q⟩
    | cont => exact let ⟨σ', H', J, q⟩ := g; ⟨σ', H', J.ofTry ok, q⟩
    | ret u => exact let ⟨v, σ', H', J, r, q⟩ := g; ⟨v, σ', H', J.ofTry ok, r, q⟩
  obtain ⟨a, B, sI, pins', σ', H', cls, d, rfl, J', nb, up, sky, na, os, ag, w⟩ := xx
  have J : Inv X pins σ' H' sI := J'.ofTry ok
  refine Sky.land Zc.steady (by rw [ok.frames, hs]) hf (show Sky B (X.env :: X.outer) a (Zc cls d) X.env.locals s'.heap by rw [← hs]; exact sky) fun h3 fl up3 => ?_
  have J3 : Inv X pins σ' H' { s' with heap := h3 } := J.landed nb fl.1 (up.trans up3) os ag
  obtain ⟨oe, vs, he, hz, hd⟩ := fl.there
  have away : a ∉ frs (X.env :: X.outer) := fun hm => by
    obtain ⟨_, o', e', nf⟩ := fl.2.2.1.mem hm
    rw [he] at e'; cases e'
    exact nf _ hd
  have nL : a ≠ X.env.locals := fun z => away (List.mem_filterMap.mpr ⟨X.env, List.mem_cons_self, by rw [hf, z]⟩)
  have nF : a ∉ X.fs := fun hm => by
    obtain ⟨e, h1, q⟩ := List.mem_filterMap.mp hm
    exact away (List.mem_filterMap.mpr ⟨e, List.mem_cons_of_mem _ h1, q⟩)
  have S3 := J3.suite he hd na nL nF
  have LT : PySem.W.Looks (model X.prog X.w) h3 (typeOf (.ref a)) cls := fun A Q E s k q => wpAny_typeOf_ref (k _ _ he) (by rw [hz.1]; exact q)
  have look : ∀ {x : Str} {np : Pos} {c : Value}, Names X x c → ∀ {Q : Value → Shared → Prop} {E : Value → Shared → Prop}, Q c { s' with heap := h3 } → wpAny (model X.prog X.w) (X.A.mark (some (.ref a))) (eval (.Name x np) X.env) Q E { s' with heap := h3 } := by
    rintro x np c ⟨hg, hdb, hm | ⟨hm, hv, hnn⟩⟩ Q E q
    · exact ld_glob (X := X.suite a ((a, oe) :: (X.pn ++ pins))) S3 hg hm q hdb
    · exact ld_blt (X := X.suite a ((a, oe) :: (X.pn ++ pins))) S3 hg hm hv q hnn hdb
  have go : ∀ {hs l}, ClsOk X hs l → wMix X.K D l cls d σ' H' → wpAny (model X.prog X.w) X.A (handleBy (.ref a) X.env hs) (SP X pins D) X.xe { s' with heap := h3 } := by
    intro hs l hk
    induction hk with
    | nil => exact fun w => w.elim
    | plain hc su r ih =>
      rintro ⟨b, hb1, yes, no⟩
      refine wpAny_handleBy_cons (codeAny_handlers_test ?_) (by intro q; cases q)
      refine look hc ((PySem.W.exm_one (M := model X.prog X.w) J3.kIn LT hb1).here ?_)
      cases b with
      | false => exact ih (no rfl)
      | true =>
        refine codeAny_handlers_suite (HandSPX.lands_againZ fl fun h4 fl4 up4 => ?_)
        have J4 : Inv X pins σ' H' { s' with heap := h4 } := J.landed nb fl4.1 ((up.trans up3).trans up4) os ag
        obtain ⟨oe4, vs4, he4, hz4, hd4⟩ := fl4.there
        refine wpAny_mono ((su a oe4 cls d (X.pn ++ pins) hz4 ⟨_, hd4⟩).run [] _ _ H' _ (J4.suite he4 hd4 na nL nF) (yes rfl a na)) (fun f s6 g => ?_) (fun _ _ z => z.elim)
        cases f with
        | next => exact let ⟨σ6, H6, S6, q6⟩ := g; ⟨_, _, S6.unsuite ok, q6⟩
        | brk => exact let ⟨σ6, H6, S6, q6⟩ := g; ⟨_, _, S6.unsuite ok, q6⟩
        | cont => exact let ⟨σ6, H6, S6, q6⟩ := g; ⟨_, _, S6.unsuite ok, q6⟩
        | ret u => exact let ⟨v6, σ6, H6, S6, r6, q6⟩ := g; ⟨_, _, _, S6.unsuite ok, r6, q6⟩
    | named hi hln hc su r ih =>
      rintro ⟨b, hb1, yes, no⟩
      refine wpAny_handleBy_cons (codeAny_handlers_test ?_) (by intro q; cases q)
      refine look hc ((PySem.W.exm_one (M := model X.prog X.w) J3.kIn LT hb1).here ?_)
      cases b with
      | false => exact ih (no rfl)
      | true =>
        refine codeAny_handlers_suite_as (HandSPX.lands_againZ fl fun h4 fl4 up4 => ?_)
        have J4 : Inv X pins σ' H' { s' with heap := h4 } := J.landed nb fl4.1 ((up.trans up3).trans up4) os ag
        obtain ⟨oe4, vs4, he4, hz4, hd4⟩ := fl4.there
        refine store_ok (X := X.suite a ((a, oe4) :: (X.pn ++ pins))) (v := .ref a) (J4.suite he4 hd4 na nL nF) hN hi (.inl hln) rfl (fun s5 S5 => ?_) (.inr hln)
        refine wpAny_mono ((su a oe4 cls d (X.pn ++ pins) hz4 ⟨_, hd4⟩).run [] s5 _ H' _ S5 (yes rfl a na)) (fun f s6 g => ?_) (fun _ _ z => z.elim)
        cases f with
        | next => exact let ⟨σ6, H6, S6, q6⟩ := g; gone_ok (S6.unsuite ok) hN hi hln fun s7 J7 => ⟨_, _, J7, q6⟩
        | brk => exact let ⟨σ6, H6, S6, q6⟩ := g; gone_ok (S6.unsuite ok) hN hi hln fun s7 J7 => ⟨_, _, J7, q6⟩
        | cont => exact let ⟨σ6, H6, S6, q6⟩ := g; gone_ok (S6.unsuite ok) hN hi hln fun s7 J7 => ⟨_, _, J7, q6⟩
        | ret u => exact let ⟨v6, σ6, H6, S6, r6, q6⟩ := g; gone_ok (S6.unsuite ok) hN hi hln fun s7 J7 => ⟨_, _, _, J7, r6, q6⟩
  exact go hh w

end My
namespace My
open PySem L2 TL
abbrev P : Program := PySem.Challenge.pw_fullqueue_k03_programs_recognized
def top (i : Nat) : Stmt := PySem.Challenge.pw_fullqueue_k03_programs_recognized.main.body.getD i (.Pass ⟨0, 0, 0, 0⟩)
abbrev s_LimitExceeded_init : Stmt := inClass (top 6) 0
abbrev s_is_int : Stmt := top 10
theorem sc_is_int : FnScope ["value"] ["value"] (defScope s_is_int) := ⟨rfl, rfl, rfl, by decide +kernel, rfl, by decide +kernel, by decide +kernel⟩
abbrev s_is_natural : Stmt := top 11
theorem sc_is_natural : FnScope ["value"] ["value"] (defScope s_is_natural) := ⟨rfl, rfl, rfl, by decide +kernel, rfl, by decide +kernel, by decide +kernel⟩
abbrev s_is_int_between : Stmt := top 12
theorem sc_is_int_between : FnScope ["value", "least", "most"] ["value", "least", "most"] (defScope s_is_int_between) := ⟨rfl, rfl, rfl, by decide +kernel, rfl, by decide +kernel, by decide +kernel⟩
abbrev s_read_integer : Stmt := top 13
theorem sc_read_integer : FnScope ["text", "digits", "number"] ["text"] (defScope s_read_integer) := ⟨rfl, rfl, rfl, by decide +kernel, rfl, by decide +kernel, by decide +kernel⟩
abbrev s_is_program : Stmt := top 20
theorem sc_is_program : FnScope ["value"] ["value"] (defScope s_is_program) := ⟨rfl, rfl, rfl, by decide +kernel, rfl, by decide +kernel, by decide +kernel⟩
abbrev s_is_sequence : Stmt := top 21
theorem sc_is_sequence : FnScope ["value"] ["value"] (defScope s_is_sequence) := ⟨rfl, rfl, rfl, by decide +kernel, rfl, by decide +kernel, by decide +kernel⟩
abbrev s_is_count : Stmt := top 22
theorem sc_is_count : FnScope ["value"] ["value"] (defScope s_is_count) := ⟨rfl, rfl, rfl, by decide +kernel, rfl, by decide +kernel, by decide +kernel⟩
abbrev s_check_count : Stmt := top 23
theorem sc_check_count : FnScope ["value"] ["value"] (defScope s_check_count) := ⟨rfl, rfl, rfl, by decide +kernel, rfl, by decide +kernel, by decide +kernel⟩
abbrev s_count_steps : Stmt := top 24
theorem sc_count_steps : FnScope ["program"] ["program"] (defScope s_count_steps) := ⟨rfl, rfl, rfl, by decide +kernel, rfl, by decide +kernel, by decide +kernel⟩
abbrev s_write_out : Stmt := top 25
theorem sc_write_out : FnScope ["program", "parts", "size"] ["program"] (defScope s_write_out) := ⟨rfl, rfl, rfl, by decide +kernel, rfl, by decide +kernel, by decide +kernel⟩
abbrev s_last_puts : Stmt := top 26
theorem sc_last_puts : FnScope ["program", "count", "parts"] ["program", "count"] (defScope s_last_puts) := ⟨rfl, rfl, rfl, by decide +kernel, rfl, by decide +kernel, by decide +kernel⟩
abbrev s_repeat : Stmt := top 27
theorem sc_repeat : FnScope ["program", "count", "parts", "depth"] ["program", "count"] (defScope s_repeat) := ⟨rfl, rfl, rfl, by decide +kernel, rfl, by decide +kernel, by decide +kernel⟩
abbrev s_parts_of : Stmt := top 28
theorem sc_parts_of : FnScope ["program", "parts"] ["program"] (defScope s_parts_of) := ⟨rfl, rfl, rfl, by decide +kernel, rfl, by decide +kernel, by decide +kernel⟩
abbrev s_read_parts : Stmt := top 29
theorem sc_read_parts : FnScope ["text", "outer", "parts", "at", "end", "count", "repetition"] ["text"] (defScope s_read_parts) := ⟨rfl, rfl, rfl, by decide +kernel, rfl, by decide +kernel, by decide +kernel⟩
abbrev s_end_of_run : Stmt := top 30
theorem sc_end_of_run : FnScope ["text", "start", "signs", "end"] ["text", "start", "signs"] (defScope s_end_of_run) := ⟨rfl, rfl, rfl, by decide +kernel, rfl, by decide +kernel, by decide +kernel⟩
abbrev s_depth_of : Stmt := top 31
abbrev s_count_part_steps : Stmt := top 32
theorem sc_count_part_steps : FnScope ["parts", "size", "part", "body", "count"] ["parts"] (defScope s_count_part_steps) := ⟨rfl, rfl, rfl, by decide +kernel, rfl, by decide +kernel, by decide +kernel⟩
abbrev s_write_parts : Stmt := top 33
abbrev s_write_part : Stmt := top 34
abbrev s_last_letters : Stmt := top 35
theorem sc_last_letters : FnScope ["parts", "most", "found", "part"] ["parts", "most"] (defScope s_last_letters) := ⟨rfl, rfl, rfl, by decide +kernel, rfl, by decide +kernel, by decide +kernel⟩
abbrev s_last_letters_of_part : Stmt := top 36
theorem sc_last_letters_of_part : FnScope ["part", "most", "body", "count", "letters", "rounds"] ["part", "most"] (defScope s_last_letters_of_part) := ⟨rfl, rfl, rfl, by decide +kernel, rfl, by decide +kernel, by decide +kernel⟩
abbrev s_ending : Stmt := top 37
theorem sc_ending : FnScope ["text", "most"] ["text", "most"] (defScope s_ending) := ⟨rfl, rfl, rfl, by decide +kernel, rfl, by decide +kernel, by decide +kernel⟩
abbrev s_is_capacity : Stmt := top 41
theorem sc_is_capacity : FnScope ["value"] ["value"] (defScope s_is_capacity) := ⟨rfl, rfl, rfl, by decide +kernel, rfl, by decide +kernel, by decide +kernel⟩
abbrev s_is_mode : Stmt := top 42
theorem sc_is_mode : FnScope ["value"] ["value"] (defScope s_is_mode) := ⟨rfl, rfl, rfl, by decide +kernel, rfl, by decide +kernel, by decide +kernel⟩
abbrev s_check_capacity : Stmt := top 44
theorem sc_check_capacity : FnScope ["value"] ["value"] (defScope s_check_capacity) := ⟨rfl, rfl, rfl, by decide +kernel, rfl, by decide +kernel, by decide +kernel⟩
abbrev s_check_mode : Stmt := top 45
theorem sc_check_mode : FnScope ["value"] ["value"] (defScope s_check_mode) := ⟨rfl, rfl, rfl, by decide +kernel, rfl, by decide +kernel, by decide +kernel⟩
abbrev s_Profile_init : Stmt := inClass (top 47) 0
theorem sc_Profile_init : FnScope ["self", "puts", "takes", "low", "high", "fall", "number"] ["self", "puts", "takes", "low", "high", "fall"] (defScope s_Profile_init) := ⟨rfl, rfl, rfl, by decide +kernel, rfl, by decide +kernel, by decide +kernel⟩
abbrev s_Profile_puts : Stmt := inClass (top 47) 1
theorem sc_Profile_puts : FnScope ["self"] ["self"] (defScope s_Profile_puts) := ⟨rfl, rfl, rfl, by decide +kernel, rfl, by decide +kernel, by decide +kernel⟩
abbrev s_Profile_takes : Stmt := inClass (top 47) 2
theorem sc_Profile_takes : FnScope ["self"] ["self"] (defScope s_Profile_takes) := ⟨rfl, rfl, rfl, by decide +kernel, rfl, by decide +kernel, by decide +kernel⟩
abbrev s_Profile_low : Stmt := inClass (top 47) 3
theorem sc_Profile_low : FnScope ["self"] ["self"] (defScope s_Profile_low) := ⟨rfl, rfl, rfl, by decide +kernel, rfl, by decide +kernel, by decide +kernel⟩
abbrev s_Profile_high : Stmt := inClass (top 47) 4
theorem sc_Profile_high : FnScope ["self"] ["self"] (defScope s_Profile_high) := ⟨rfl, rfl, rfl, by decide +kernel, rfl, by decide +kernel, by decide +kernel⟩
abbrev s_Profile_fall : Stmt := inClass (top 47) 5
theorem sc_Profile_fall : FnScope ["self"] ["self"] (defScope s_Profile_fall) := ⟨rfl, rfl, rfl, by decide +kernel, rfl, by decide +kernel, by decide +kernel⟩
abbrev s_Profile_offset : Stmt := inClass (top 47) 6
theorem sc_Profile_offset : FnScope ["self"] ["self"] (defScope s_Profile_offset) := ⟨rfl, rfl, rfl, by decide +kernel, rfl, by decide +kernel, by decide +kernel⟩
abbrev s_Profile_of : Stmt := inClass (top 47) 7
theorem sc_Profile_of : FnScope ["cls", "program"] ["cls", "program"] (defScope s_Profile_of) := ⟨rfl, rfl, rfl, by decide +kernel, rfl, by decide +kernel, by decide +kernel⟩
abbrev s_Profile_of_parts : Stmt := inClass (top 47) 8
theorem sc_Profile_of_parts : FnScope ["cls", "parts", "total", "part", "body", "count"] ["cls", "parts"] (defScope s_Profile_of_parts) := ⟨rfl, rfl, rfl, by decide +kernel, rfl, by decide +kernel, by decide +kernel⟩
abbrev s_Profile_of_sequence : Stmt := inClass (top 47) 9
theorem sc_Profile_of_sequence : FnScope ["cls", "sequence", "offset", "low", "high", "fall", "step", "takes"] ["cls", "sequence"] (defScope s_Profile_of_sequence) := ⟨rfl, rfl, rfl, by decide +kernel, rfl, by decide +kernel, by decide +kernel⟩
abbrev s_Profile_add : Stmt := inClass (top 47) 10
theorem sc_Profile_add : FnScope ["self", "other", "other_low", "other_high"] ["self", "other"] (defScope s_Profile_add) := ⟨rfl, rfl, rfl, by decide +kernel, rfl, by decide +kernel, by decide +kernel⟩
abbrev s_Profile_mul : Stmt := inClass (top 47) 11
theorem sc_Profile_mul : FnScope ["self", "other", "last_start"] ["self", "other"] (defScope s_Profile_mul) := ⟨rfl, rfl, rfl, by decide +kernel, rfl, by decide +kernel, by decide +kernel⟩
abbrev s_Profile_repeated_fall : Stmt := inClass (top 47) 12
theorem sc_Profile_repeated_fall : FnScope ["self", "last_start", "span"] ["self", "last_start"] (defScope s_Profile_repeated_fall) := ⟨rfl, rfl, rfl, by decide +kernel, rfl, by decide +kernel, by decide +kernel⟩
abbrev s_Profile_eq : Stmt := inClass (top 47) 13
theorem sc_Profile_eq : FnScope ["self", "other"] ["self", "other"] (defScope s_Profile_eq) := ⟨rfl, rfl, rfl, by decide +kernel, rfl, by decide +kernel, by decide +kernel⟩
abbrev s_start_lengths : Stmt := top 49
theorem sc_start_lengths : FnScope ["program", "capacity", "mode", "profile"] ["program", "capacity", "mode"] (defScope s_start_lengths) := ⟨rfl, rfl, rfl, by decide +kernel, rfl, by decide +kernel, by decide +kernel⟩
abbrev s_start_bounds : Stmt := top 50
theorem sc_start_bounds : FnScope ["profile", "capacity", "mode", "least", "greatest"] ["profile", "capacity", "mode"] (defScope s_start_bounds) := ⟨rfl, rfl, rfl, by decide +kernel, rfl, by decide +kernel, by decide +kernel⟩
abbrev s__law_draws : Stmt := top 52
theorem sc__law_draws : FnScope ["_law_script", "_law_k", "_law_cell", "_law_seed"] ["_law_script", "_law_k"] (defScope s__law_draws) := ⟨rfl, rfl, rfl, by decide +kernel, rfl, by decide +kernel, by decide +kernel⟩
abbrev s__law_draw : Stmt := top 53
theorem sc__law_draw : FnScope ["_law_draws_here", "_law_upto", "_law_digit"] ["_law_draws_here", "_law_upto"] (defScope s__law_draw) := ⟨rfl, rfl, rfl, by decide +kernel, rfl, by decide +kernel, by decide +kernel⟩
abbrev s__law_letter : Stmt := top 54
theorem sc__law_letter : FnScope ["_law_draws_here"] ["_law_draws_here"] (defScope s__law_letter) := ⟨rfl, rfl, rfl, by decide +kernel, rfl, by decide +kernel, by decide +kernel⟩
abbrev s__law_sequence : Stmt := top 55
theorem sc__law_sequence : FnScope ["_law_draws_here", "_law_most", "_law_some", "_law_way", "_law_turn"] ["_law_draws_here", "_law_most"] (defScope s__law_sequence) := ⟨rfl, rfl, rfl, by decide +kernel, rfl, by decide +kernel, by decide +kernel⟩
abbrev s__law_program : Stmt := top 56
theorem sc__law_program : FnScope ["_law_draws_here", "_law_depth", "_law_text", "_law_full", "_law_turn", "_law_stretch", "_law_inner", "_law_spelled", "_law_count"] ["_law_draws_here", "_law_depth"] (defScope s__law_program) := ⟨rfl, rfl, rfl, by decide +kernel, rfl, by decide +kernel, by decide +kernel⟩
abbrev s__law_rest : Stmt := top 57
theorem sc__law_rest : FnScope ["_law_text", "_law_at", "_law_depth", "_law_start", "_law_digits"] ["_law_text", "_law_at", "_law_depth"] (defScope s__law_rest) := ⟨rfl, rfl, rfl, by decide +kernel, rfl, by decide +kernel, by decide +kernel⟩
abbrev s__law_is_program : Stmt := top 58
theorem sc__law_is_program : FnScope ["_law_text"] ["_law_text"] (defScope s__law_is_program) := ⟨rfl, rfl, rfl, by decide +kernel, rfl, by decide +kernel, by decide +kernel⟩
abbrev s__law_error : Stmt := top 59
theorem sc__law_error : FnScope ["_law_function", "_law_value"] ["_law_function", "_law_value"] (defScope s__law_error) := ⟨rfl, rfl, rfl, by decide +kernel, rfl, by decide +kernel, by decide +kernel⟩
abbrev s__law_right : Stmt := top 60
theorem sc__law_right : FnScope ["_law_text", "_law_valid", "_law_other", "_law_function", "_law_step"] ["_law_text"] (defScope s__law_right) := ⟨rfl, rfl, rfl, by decide +kernel, rfl, by decide +kernel, by decide +kernel⟩
abbrev s_law : Stmt := top 61
theorem sc_law : FnScope ["_law_script", "_law_value", "_law_deep", "_law_good", "_law_bad", "_law_k", "_law_draws_here", "_law_text", "_law_at", "_law_extra", "_law_some", "_law_function"] ["_law_script"] (defScope s_law) := ⟨rfl, rfl, rfl, by decide +kernel, rfl, by decide +kernel, by decide +kernel⟩
end My
namespace My
open PySem L2 TL
local macro_rules | `(tactic| walk_at "rd") => `(tactic| try simp only [tMakeK, tFld, sFld, tProp, tMeth, tMake, tMakeL, ClX.tCMeth, tAsg2, tAsg3, tAsg4, tDNewK, rU, tYes, tSeq, tNext, tDrop, tRet, tRetN, tIfS, tAsg, tAug, tPar, gName, gSub, gTup, tVar, tC, tOp, tUn, tTest, tB, tAnd, tOr, tNot, tAndV, tOrV, tNotV, tIf, tChain, tCB, tCons, tNil, tCall, tLst, tTup, tSl, tPart, tNoPart, tM0, tM1, tBM, tBM0, rI, rI0, rEq, rNe,
  List.append_nil, List.cons_append, List.nil_append, List.getElem?_cons_zero, List.getElem?_cons_succ, List.set_cons_zero, List.set_cons_succ, Option.some.injEq, V.int.injEq, V.bl.injEq, V.str.injEq, V.ref.injEq, List.cons.injEq, and_true, true_and,
  and_assoc, exists_and_left, exists_and_right, exists_eq_left, exists_eq_left', decide_true, decide_false, reduceCtorEq, nox_K, cx_K, ite_t, ite_f, exists_false, false_and, and_false, false_or, or_false, if_true, if_false, ite_true, ite_false, scal, tyV, Bool.not_true, Bool.not_false, Bool.true_and, Bool.and_true, Bool.false_and, Bool.and_false])
local macro_rules | `(tactic| walk_at "sz") => `(tactic| (first | (show _ ≤ sizeLine) | (show _ < sizeLine)); simp only [List.length_cons, List.length_nil]; decide)
local macro_rules | `(tactic| walk_at "wp") => `(tactic| simp only [wipe, List.map_cons, List.map_nil, List.set_cons_zero, List.set_cons_succ])

structure Top (K : PySem.W.Frag) (mg : Str → Option Value) where
  a_is_int : Addr
  d_is_int : FuncData
  F_is_int : Fun K "is_int" "is_int" s_is_int a_is_int d_is_int
  b_is_int : Binds K d_is_int ["value"] []
  m_is_int : mg "is_int" = some (.ref a_is_int)
  a_is_natural : Addr
  d_is_natural : FuncData
  F_is_natural : Fun K "is_natural" "is_natural" s_is_natural a_is_natural d_is_natural
  b_is_natural : Binds K d_is_natural ["value"] []
  m_is_natural : mg "is_natural" = some (.ref a_is_natural)
  a_is_int_between : Addr
  d_is_int_between : FuncData
  F_is_int_between : Fun K "is_int_between" "is_int_between" s_is_int_between a_is_int_between d_is_int_between
  b_is_int_between : Binds K d_is_int_between ["value", "least", "most"] []
  m_is_int_between : mg "is_int_between" = some (.ref a_is_int_between)
  a_read_integer : Addr
  d_read_integer : FuncData
  F_read_integer : Fun K "read_integer" "read_integer" s_read_integer a_read_integer d_read_integer
  b_read_integer : Binds K d_read_integer ["text"] []
  m_read_integer : mg "read_integer" = some (.ref a_read_integer)
  a_is_program : Addr
  d_is_program : FuncData
  F_is_program : Fun K "is_program" "is_program" s_is_program a_is_program d_is_program
  b_is_program : Binds K d_is_program ["value"] []
  m_is_program : mg "is_program" = some (.ref a_is_program)
  a_is_sequence : Addr
  d_is_sequence : FuncData
  F_is_sequence : Fun K "is_sequence" "is_sequence" s_is_sequence a_is_sequence d_is_sequence
  b_is_sequence : Binds K d_is_sequence ["value"] []
  m_is_sequence : mg "is_sequence" = some (.ref a_is_sequence)
  a_is_count : Addr
  d_is_count : FuncData
  F_is_count : Fun K "is_count" "is_count" s_is_count a_is_count d_is_count
  b_is_count : Binds K d_is_count ["value"] []
  m_is_count : mg "is_count" = some (.ref a_is_count)
  a_check_count : Addr
  d_check_count : FuncData
  F_check_count : Fun K "check_count" "check_count" s_check_count a_check_count d_check_count
  b_check_count : Binds K d_check_count ["value"] []
  m_check_count : mg "check_count" = some (.ref a_check_count)
  a_count_steps : Addr
  d_count_steps : FuncData
  F_count_steps : Fun K "count_steps" "count_steps" s_count_steps a_count_steps d_count_steps
  b_count_steps : Binds K d_count_steps ["program"] []
  m_count_steps : mg "count_steps" = some (.ref a_count_steps)
  a_write_out : Addr
  d_write_out : FuncData
  F_write_out : Fun K "write_out" "write_out" s_write_out a_write_out d_write_out
  b_write_out : Binds K d_write_out ["program"] []
  m_write_out : mg "write_out" = some (.ref a_write_out)
  a_last_puts : Addr
  d_last_puts : FuncData
  F_last_puts : Fun K "last_puts" "last_puts" s_last_puts a_last_puts d_last_puts
  b_last_puts : Binds K d_last_puts ["program", "count"] []
  m_last_puts : mg "last_puts" = some (.ref a_last_puts)
  a_repeat : Addr
  d_repeat : FuncData
  F_repeat : Fun K "repeat" "repeat" s_repeat a_repeat d_repeat
  b_repeat : Binds K d_repeat ["program", "count"] []
  m_repeat : mg "repeat" = some (.ref a_repeat)
  a_parts_of : Addr
  d_parts_of : FuncData
  F_parts_of : Fun K "parts_of" "parts_of" s_parts_of a_parts_of d_parts_of
  b_parts_of : Binds K d_parts_of ["program"] []
  m_parts_of : mg "parts_of" = some (.ref a_parts_of)
  a_read_parts : Addr
  d_read_parts : FuncData
  F_read_parts : Fun K "read_parts" "read_parts" s_read_parts a_read_parts d_read_parts
  b_read_parts : Binds K d_read_parts ["text"] []
  m_read_parts : mg "read_parts" = some (.ref a_read_parts)
  a_end_of_run : Addr
  d_end_of_run : FuncData
  F_end_of_run : Fun K "end_of_run" "end_of_run" s_end_of_run a_end_of_run d_end_of_run
  b_end_of_run : Binds K d_end_of_run ["text", "start", "signs"] []
  m_end_of_run : mg "end_of_run" = some (.ref a_end_of_run)
  a_count_part_steps : Addr
  d_count_part_steps : FuncData
  F_count_part_steps : Fun K "count_part_steps" "count_part_steps" s_count_part_steps a_count_part_steps d_count_part_steps
  b_count_part_steps : Binds K d_count_part_steps ["parts"] []
  m_count_part_steps : mg "count_part_steps" = some (.ref a_count_part_steps)
  a_last_letters : Addr
  d_last_letters : FuncData
  F_last_letters : Fun K "last_letters" "last_letters" s_last_letters a_last_letters d_last_letters
  b_last_letters : Binds K d_last_letters ["parts", "most"] []
  m_last_letters : mg "last_letters" = some (.ref a_last_letters)
  a_last_letters_of_part : Addr
  d_last_letters_of_part : FuncData
  F_last_letters_of_part : Fun K "last_letters_of_part" "last_letters_of_part" s_last_letters_of_part a_last_letters_of_part d_last_letters_of_part
  b_last_letters_of_part : Binds K d_last_letters_of_part ["part", "most"] []
  m_last_letters_of_part : mg "last_letters_of_part" = some (.ref a_last_letters_of_part)
  a_ending : Addr
  d_ending : FuncData
  F_ending : Fun K "ending" "ending" s_ending a_ending d_ending
  b_ending : Binds K d_ending ["text", "most"] []
  m_ending : mg "ending" = some (.ref a_ending)
  a_is_capacity : Addr
  d_is_capacity : FuncData
  F_is_capacity : Fun K "is_capacity" "is_capacity" s_is_capacity a_is_capacity d_is_capacity
  b_is_capacity : Binds K d_is_capacity ["value"] []
  m_is_capacity : mg "is_capacity" = some (.ref a_is_capacity)
  a_is_mode : Addr
  d_is_mode : FuncData
  F_is_mode : Fun K "is_mode" "is_mode" s_is_mode a_is_mode d_is_mode
  b_is_mode : Binds K d_is_mode ["value"] []
  m_is_mode : mg "is_mode" = some (.ref a_is_mode)
  a_check_capacity : Addr
  d_check_capacity : FuncData
  F_check_capacity : Fun K "check_capacity" "check_capacity" s_check_capacity a_check_capacity d_check_capacity
  b_check_capacity : Binds K d_check_capacity ["value"] []
  m_check_capacity : mg "check_capacity" = some (.ref a_check_capacity)
  a_check_mode : Addr
  d_check_mode : FuncData
  F_check_mode : Fun K "check_mode" "check_mode" s_check_mode a_check_mode d_check_mode
  b_check_mode : Binds K d_check_mode ["value"] []
  m_check_mode : mg "check_mode" = some (.ref a_check_mode)
  a_Profile_init : Addr
  d_Profile_init : FuncData
  F_Profile_init : Fun K "__init__" "Profile.__init__" s_Profile_init a_Profile_init d_Profile_init
  b_Profile_init : Binds K d_Profile_init ["self", "puts", "takes", "low", "high", "fall"] []
  a_Profile_puts : Addr
  d_Profile_puts : FuncData
  F_Profile_puts : Fun K "puts" "Profile.puts" s_Profile_puts a_Profile_puts d_Profile_puts
  b_Profile_puts : Binds K d_Profile_puts ["self"] []
  a_Profile_takes : Addr
  d_Profile_takes : FuncData
  F_Profile_takes : Fun K "takes" "Profile.takes" s_Profile_takes a_Profile_takes d_Profile_takes
  b_Profile_takes : Binds K d_Profile_takes ["self"] []
  a_Profile_low : Addr
  d_Profile_low : FuncData
  F_Profile_low : Fun K "low" "Profile.low" s_Profile_low a_Profile_low d_Profile_low
  b_Profile_low : Binds K d_Profile_low ["self"] []
  a_Profile_high : Addr
  d_Profile_high : FuncData
  F_Profile_high : Fun K "high" "Profile.high" s_Profile_high a_Profile_high d_Profile_high
  b_Profile_high : Binds K d_Profile_high ["self"] []
  a_Profile_fall : Addr
  d_Profile_fall : FuncData
  F_Profile_fall : Fun K "fall" "Profile.fall" s_Profile_fall a_Profile_fall d_Profile_fall
  b_Profile_fall : Binds K d_Profile_fall ["self"] []
  a_Profile_offset : Addr
  d_Profile_offset : FuncData
  F_Profile_offset : Fun K "offset" "Profile.offset" s_Profile_offset a_Profile_offset d_Profile_offset
  b_Profile_offset : Binds K d_Profile_offset ["self"] []
  a_Profile_of : Addr
  d_Profile_of : FuncData
  F_Profile_of : Fun K "of" "Profile.of" s_Profile_of a_Profile_of d_Profile_of
  b_Profile_of : Binds K d_Profile_of ["cls", "program"] []
  a_Profile_of_parts : Addr
  d_Profile_of_parts : FuncData
  F_Profile_of_parts : Fun K "_of_parts" "Profile._of_parts" s_Profile_of_parts a_Profile_of_parts d_Profile_of_parts
  b_Profile_of_parts : Binds K d_Profile_of_parts ["cls", "parts"] []
  a_Profile_of_sequence : Addr
  d_Profile_of_sequence : FuncData
  F_Profile_of_sequence : Fun K "_of_sequence" "Profile._of_sequence" s_Profile_of_sequence a_Profile_of_sequence d_Profile_of_sequence
  b_Profile_of_sequence : Binds K d_Profile_of_sequence ["cls", "sequence"] []
  a_Profile_add : Addr
  d_Profile_add : FuncData
  F_Profile_add : Fun K "__add__" "Profile.__add__" s_Profile_add a_Profile_add d_Profile_add
  b_Profile_add : Binds K d_Profile_add ["self", "other"] []
  a_Profile_mul : Addr
  d_Profile_mul : FuncData
  F_Profile_mul : Fun K "__mul__" "Profile.__mul__" s_Profile_mul a_Profile_mul d_Profile_mul
  b_Profile_mul : Binds K d_Profile_mul ["self", "other"] []
  a_Profile_repeated_fall : Addr
  d_Profile_repeated_fall : FuncData
  F_Profile_repeated_fall : Fun K "_repeated_fall" "Profile._repeated_fall" s_Profile_repeated_fall a_Profile_repeated_fall d_Profile_repeated_fall
  b_Profile_repeated_fall : Binds K d_Profile_repeated_fall ["self", "last_start"] []
  a_Profile_eq : Addr
  d_Profile_eq : FuncData
  F_Profile_eq : Fun K "__eq__" "Profile.__eq__" s_Profile_eq a_Profile_eq d_Profile_eq
  b_Profile_eq : Binds K d_Profile_eq ["self", "other"] []
  a_start_lengths : Addr
  d_start_lengths : FuncData
  F_start_lengths : Fun K "start_lengths" "start_lengths" s_start_lengths a_start_lengths d_start_lengths
  b_start_lengths : Binds K d_start_lengths ["program", "capacity", "mode"] []
  m_start_lengths : mg "start_lengths" = some (.ref a_start_lengths)
  a_start_bounds : Addr
  d_start_bounds : FuncData
  F_start_bounds : Fun K "start_bounds" "start_bounds" s_start_bounds a_start_bounds d_start_bounds
  b_start_bounds : Binds K d_start_bounds ["profile", "capacity", "mode"] []
  m_start_bounds : mg "start_bounds" = some (.ref a_start_bounds)
  a__law_draws : Addr
  d__law_draws : FuncData
  F__law_draws : Fun K "_law_draws" "_law_draws" s__law_draws a__law_draws d__law_draws
  b__law_draws : Binds K d__law_draws ["_law_script", "_law_k"] []
  m__law_draws : mg "_law_draws" = some (.ref a__law_draws)
  a__law_draw : Addr
  d__law_draw : FuncData
  F__law_draw : Fun K "_law_draw" "_law_draw" s__law_draw a__law_draw d__law_draw
  b__law_draw : Binds K d__law_draw ["_law_draws_here", "_law_upto"] []
  m__law_draw : mg "_law_draw" = some (.ref a__law_draw)
  a__law_letter : Addr
  d__law_letter : FuncData
  F__law_letter : Fun K "_law_letter" "_law_letter" s__law_letter a__law_letter d__law_letter
  b__law_letter : Binds K d__law_letter ["_law_draws_here"] []
  m__law_letter : mg "_law_letter" = some (.ref a__law_letter)
  a__law_sequence : Addr
  d__law_sequence : FuncData
  F__law_sequence : Fun K "_law_sequence" "_law_sequence" s__law_sequence a__law_sequence d__law_sequence
  b__law_sequence : Binds K d__law_sequence ["_law_draws_here", "_law_most"] []
  m__law_sequence : mg "_law_sequence" = some (.ref a__law_sequence)
  a__law_program : Addr
  d__law_program : FuncData
  F__law_program : Fun K "_law_program" "_law_program" s__law_program a__law_program d__law_program
  b__law_program : Binds K d__law_program ["_law_draws_here", "_law_depth"] []
  m__law_program : mg "_law_program" = some (.ref a__law_program)
  a__law_rest : Addr
  d__law_rest : FuncData
  F__law_rest : Fun K "_law_rest" "_law_rest" s__law_rest a__law_rest d__law_rest
  b__law_rest : Binds K d__law_rest ["_law_text", "_law_at", "_law_depth"] []
  m__law_rest : mg "_law_rest" = some (.ref a__law_rest)
  a__law_is_program : Addr
  d__law_is_program : FuncData
  F__law_is_program : Fun K "_law_is_program" "_law_is_program" s__law_is_program a__law_is_program d__law_is_program
  b__law_is_program : Binds K d__law_is_program ["_law_text"] []
  m__law_is_program : mg "_law_is_program" = some (.ref a__law_is_program)
  a__law_error : Addr
  d__law_error : FuncData
  F__law_error : Fun K "_law_error" "_law_error" s__law_error a__law_error d__law_error
  b__law_error : Binds K d__law_error ["_law_function", "_law_value"] []
  m__law_error : mg "_law_error" = some (.ref a__law_error)
  a__law_right : Addr
  d__law_right : FuncData
  F__law_right : Fun K "_law_right" "_law_right" s__law_right a__law_right d__law_right
  b__law_right : Binds K d__law_right ["_law_text"] []
  m__law_right : mg "_law_right" = some (.ref a__law_right)
  a_law : Addr
  d_law : FuncData
  F_law : Fun K "law" "law" s_law a_law d_law
  b_law : Binds K d_law ["_law_script"] []
  m_law : mg "law" = some (.ref a_law)
  z_NotImplemented : mg "NotImplemented" = none
  z_all : mg "all" = none
  z_bool : mg "bool" = none
  z_classmethod : mg "classmethod" = none
  z_int : mg "int" = none
  z_isinstance : mg "isinstance" = none
  z_len : mg "len" = none
  z_max : mg "max" = none
  z_min : mg "min" = none
  z_property : mg "property" = none
  z_range : mg "range" = none
  z_str : mg "str" = none
  u_DIGITS : Tok
  c_DIGITS : mg "DIGITS" = some (.str "0123456789" u_DIGITS)
  u_MOST_DIGITS : Tok
  c_MOST_DIGITS : mg "MOST_DIGITS" = some (.int 60 u_MOST_DIGITS)
  u_TAKE : Tok
  c_TAKE : mg "TAKE" = some (.str "-" u_TAKE)
  w_TAKE : (0 < u_TAKE ∧ u_TAKE < 343)
  u_STEPS : Tok
  c_STEPS : mg "STEPS" = some (.str "abcdefghijklmnopqrstuvwxyz-" u_STEPS)
  u_MOST_COUNT : Tok
  c_MOST_COUNT : mg "MOST_COUNT" = some (.int 1000000000000000000000000000000 u_MOST_COUNT)
  u_MOST_DEPTH : Tok
  c_MOST_DEPTH : mg "MOST_DEPTH" = some (.int 20 u_MOST_DEPTH)
  u_MOST_STEPS : Tok
  c_MOST_STEPS : mg "MOST_STEPS" = some (.int 4000 u_MOST_STEPS)
  p_MODES : Addr
  c_MODES : mg "MODES" = some (.ref p_MODES)
  t_MODES : ∀ H, SqT K H p_MODES [.str "oldest", .str "newest", .str "strict"]
  u_MOST_CAPACITY : Tok
  c_MOST_CAPACITY : mg "MOST_CAPACITY" = some (.int 100 u_MOST_CAPACITY)
  x_InvalidInteger : Addr
  g_InvalidInteger : mg "InvalidInteger" = some (.ref x_InvalidInteger)
  q_InvalidInteger : PySem.W.excIn K x_InvalidInteger [.type "ValueError", .type "Exception", .type "BaseException", .type "object"] "ValueError.__new__" = true
  k_InvalidInteger : PySem.W.keepIn K (.ref x_InvalidInteger) = true
  b_InvalidInteger : PySem.W.subIn K (.ref x_InvalidInteger) (.type "BaseException") = some true
  t_InvalidInteger : PySem.W.typeIn K (.ref x_InvalidInteger) = some (.type "type")
  e_InvalidInteger : PySem.W.exmOne K (.ref x_InvalidInteger) (.ref x_InvalidInteger) = some true
  x_InvalidMode : Addr
  g_InvalidMode : mg "InvalidMode" = some (.ref x_InvalidMode)
  q_InvalidMode : PySem.W.excIn K x_InvalidMode [.type "ValueError", .type "Exception", .type "BaseException", .type "object"] "ValueError.__new__" = true
  k_InvalidMode : PySem.W.keepIn K (.ref x_InvalidMode) = true
  b_InvalidMode : PySem.W.subIn K (.ref x_InvalidMode) (.type "BaseException") = some true
  t_InvalidMode : PySem.W.typeIn K (.ref x_InvalidMode) = some (.type "type")
  e_InvalidMode : PySem.W.exmOne K (.ref x_InvalidMode) (.ref x_InvalidMode) = some true
  x_InvalidProgram : Addr
  g_InvalidProgram : mg "InvalidProgram" = some (.ref x_InvalidProgram)
  q_InvalidProgram : PySem.W.excIn K x_InvalidProgram [.type "ValueError", .type "Exception", .type "BaseException", .type "object"] "ValueError.__new__" = true
  k_InvalidProgram : PySem.W.keepIn K (.ref x_InvalidProgram) = true
  b_InvalidProgram : PySem.W.subIn K (.ref x_InvalidProgram) (.type "BaseException") = some true
  t_InvalidProgram : PySem.W.typeIn K (.ref x_InvalidProgram) = some (.type "type")
  e_InvalidProgram : PySem.W.exmOne K (.ref x_InvalidProgram) (.ref x_InvalidProgram) = some true
  x_InvalidCapacity : Addr
  g_InvalidCapacity : mg "InvalidCapacity" = some (.ref x_InvalidCapacity)
  q_InvalidCapacity : PySem.W.excIn K x_InvalidCapacity [.type "ValueError", .type "Exception", .type "BaseException", .type "object"] "ValueError.__new__" = true
  k_InvalidCapacity : PySem.W.keepIn K (.ref x_InvalidCapacity) = true
  b_InvalidCapacity : PySem.W.subIn K (.ref x_InvalidCapacity) (.type "BaseException") = some true
  t_InvalidCapacity : PySem.W.typeIn K (.ref x_InvalidCapacity) = some (.type "type")
  e_InvalidCapacity : PySem.W.exmOne K (.ref x_InvalidCapacity) (.ref x_InvalidCapacity) = some true
  x_Profile : Addr
  g_Profile : mg "Profile" = some (.ref x_Profile)
  cl_Profile : Cls K x_Profile
  mk_Profile : Mk K x_Profile a_Profile_init
  ca_Profile : PySem.W.findIn K (.ref x_Profile) "__class__" = some (some (.builtin "object.__class__"))
  cm_Profile : PySem.W.mroIn K x_Profile (.type "object") = some true
  cg_Profile : PySem.W.specialIn K (.builtin "object.__class__") "__get__" = some (some (.builtin "getset_descriptor.__get__"))
  ct_Profile : PySem.W.takesIn K (.builtin "object.__class__") = some true
  cs_Profile : PySem.W.isClsIn K x_Profile = true
  cy_Profile : PySem.W.typeIn K (.ref x_Profile) = some (.type "type")
  su_Profile_list : PySem.W.subIn K (.type "list") (.ref x_Profile) = some false
  rd_Profile : ClX.CRead K x_Profile (.type "type")
  cp_Profile_of : Addr
  cm_Profile_of : ClX.CMet K x_Profile (.type "type") "of" cp_Profile_of a_Profile_of
  cp_Profile_of_parts : Addr
  cm_Profile_of_parts : ClX.CMet K x_Profile (.type "type") "_of_parts" cp_Profile_of_parts a_Profile_of_parts
  cp_Profile_of_sequence : Addr
  cm_Profile_of_sequence : ClX.CMet K x_Profile (.type "type") "_of_sequence" cp_Profile_of_sequence a_Profile_of_sequence
  n_Profile_puts : NoAttr K x_Profile "_puts"
  n_Profile_takes : NoAttr K x_Profile "_takes"
  n_Profile_low : NoAttr K x_Profile "_low"
  n_Profile_high : NoAttr K x_Profile "_high"
  n_Profile_fall : NoAttr K x_Profile "_fall"
  pp_Profile_puts : Addr
  pr_Profile_puts : PropOf K x_Profile "puts" pp_Profile_puts a_Profile_puts
  pp_Profile_takes : Addr
  pr_Profile_takes : PropOf K x_Profile "takes" pp_Profile_takes a_Profile_takes
  pp_Profile_low : Addr
  pr_Profile_low : PropOf K x_Profile "low" pp_Profile_low a_Profile_low
  pp_Profile_high : Addr
  pr_Profile_high : PropOf K x_Profile "high" pp_Profile_high a_Profile_high
  pp_Profile_fall : Addr
  pr_Profile_fall : PropOf K x_Profile "fall" pp_Profile_fall a_Profile_fall
  pp_Profile_offset : Addr
  pr_Profile_offset : PropOf K x_Profile "offset" pp_Profile_offset a_Profile_offset
  me_Profile_repeated_fall : Meth K x_Profile "_repeated_fall" a_Profile_repeated_fall
  sf_Profile : PySem.W.selfFirst K x_Profile = true
  ba_Profile_add : PySem.W.findIn K (.ref x_Profile) "__add__" = some (some (.ref a_Profile_add))
  bi_Profile_add : PySem.W.isFn K (.ref a_Profile_add) = true
  ba_Profile_mul : PySem.W.findIn K (.ref x_Profile) "__mul__" = some (some (.ref a_Profile_mul))
  bi_Profile_mul : PySem.W.isFn K (.ref a_Profile_mul) = true
  br_Profile_mul : PySem.W.findIn K (.ref x_Profile) "__rmul__" = some none
  rt_Profile_mul : ∀ T ∈ ["int", "NoneType", "str", "bool"], RightT K x_Profile "mul" T
  eq_Profile : EqK K x_Profile a_Profile_eq
theorem htopP : (P.main.scope.names.lookup ("super" : Str)).isSome = false := by first | rfl | decide +kernel
section
variable {w : World} {K : PySem.W.Frag} {mg : Str → Option Value} {base : Heap}
def isIntV : V → Bool | .int _ => true | _ => false
def sp_is_int (K : PySem.W.Frag) : Sp := fun vs H Q _ => ∃ x, vs = [x] ∧ Kd K H x ∧ Q (.bl (isIntV x)) H
def sp_is_int_between (K : PySem.W.Frag) : Sp := fun vs H Q _ => ∃ (x : V) (lo hi : Int), vs = [x, .int lo, .int hi] ∧ Kd K H x ∧ Q (.bl (match x with | .int i => decide (lo ≤ i) && decide (i ≤ hi) | _ => false)) H
def isCountV : V → Bool | .int i => decide (0 ≤ i) && decide (i ≤ 10 ^ 30) | _ => false
def sp_has (K : PySem.W.Frag) (f : V → Bool) : Sp := fun vs H Q _ => ∃ x, vs = [x] ∧ Kd K H x ∧ Q (.bl (f x)) H
theorem ok_is_int (T : Top K mg) : FnOk P w K mg base CX0 1 T.a_is_int T.d_is_int ["value"] (sp_is_int K) := by
  refine T.F_is_int.ok sc_is_int (fun vs H Q E h => ?_) (fun cdv A outer s H vs Q E hr h => ?_)
  · obtain ⟨x, rfl, _⟩ := h
    rfl
  · obtain ⟨x, rfl, kx, q⟩ := h
    refine ⟨_, (pss_one (ps_ret (pe_and (pe_callB call_isi (by rfl) T.z_isinstance (by decide +kernel) (pa_cons (pv 0) (pa_cons (pe_bltn (v := .ty "int") (by rfl) T.z_int (by decide +kernel) rfl) pa_nil))) (pe_one (pe_not (pe_callB call_isi (by rfl) T.z_isinstance (by decide +kernel) (pa_cons (pv 0) (pa_cons (pe_bltn (v := .ty "bool") (by rfl) T.z_bool (by decide +kernel) rfl) pa_nil)))))))), ?_⟩
    have hst : start ["value"] [x] = [some x] := rfl
    rw [hst]
    walk_at "rd"
    refine isi_int kx ?_
    walk_at "rd"
    cases x <;> simp only [tInt] <;> walk_at "rd" <;> first | exact q | skip
    all_goals refine isi_bool kx ?_
    all_goals (simp only [tBool]; walk_at "rd"; exact q)
theorem ok_is_int_between (T : Top K mg) : FnOk P w K mg base CX0 2 T.a_is_int_between T.d_is_int_between ["value", "least", "most"] (sp_is_int_between K) := by
  have G_is_int := ok_is_int (w := w) (base := base) T
  refine T.F_is_int_between.ok sc_is_int_between (fun vs H Q E h => ?_) (fun cdv A outer s H vs Q E hr h => ?_)
  · obtain ⟨x, lo, hi, rfl, _⟩ := h
    rfl
  · obtain ⟨x, lo, hi, rfl, kx, q⟩ := h
    refine ⟨_, (pss_one (ps_ret (pe_and (pe_call G_is_int (hr.mono (by first | decide | omega)) rfl T.m_is_int T.F_is_int.kp T.b_is_int .nil pass0 (pa_cons (pv 0) pa_nil)) (pe_one (pe_chain op_le op_le (pv 1) (pv 0) (pv 2)))))), ?_⟩
    have hst : start ["value", "least", "most"] [x, .int lo, .int hi] = [some x, some (.int lo), some (.int hi)] := rfl
    rw [hst]
    walk_at "rd"
    simp only [sp_is_int]
    walk_at "rd"
    refine ⟨kx, ?_⟩
    cases x <;> simp only [isIntV] <;> walk_at "rd" <;> first | exact q | skip
    split <;> simp_all
theorem ok_is_count (T : Top K mg) : FnOk P w K mg base CX0 3 T.a_is_count T.d_is_count ["value"] (sp_has K isCountV) := by
  have G_is_int_between := ok_is_int_between (w := w) (base := base) T
  refine T.F_is_count.ok sc_is_count (fun vs H Q E h => ?_) (fun cdv A outer s H vs Q E hr h => ?_)
  · obtain ⟨x, rfl, _⟩ := h
    rfl
  · obtain ⟨x, rfl, kx, q⟩ := h
    refine ⟨_, (pss_one (ps_ret (pe_call G_is_int_between (hr.mono (by first | decide | omega)) rfl T.m_is_int_between T.F_is_int_between.kp T.b_is_int_between .nil pass0 (pa_cons (pv 0) (pa_cons pe_int (pa_cons (pe_glob (v := .int 1000000000000000000000000000000) (by rfl) T.c_MOST_COUNT ⟨_, rfl⟩) pa_nil)))))), ?_⟩
    have hst : start ["value"] [x] = [some x] := rfl
    rw [hst]
    walk_at "rd"
    simp only [sp_is_int_between]
    walk_at "rd"
    refine ⟨kx, ?_⟩
    cases x <;> exact q
/-! ### end_of_run -/
def runE (p : Nat → Bool) (l : List Nat) (a : Nat) : Nat := a + ((l.drop a).takeWhile p).length
theorem runE_go {p : Nat → Bool} {l : List Nat} {a c : Nat} (h : l[a]? = some c) (hc : p c = true) : runE p l (a + 1) = runE p l a := by
  unfold runE
  obtain ⟨ha, e⟩ := List.getElem?_eq_some_iff.mp h
  rw [List.drop_eq_getElem_cons ha, e, List.takeWhile_cons, if_pos hc, List.length_cons]; omega
theorem runE_stop {p : Nat → Bool} {l : List Nat} {a c : Nat} (h : l[a]? = some c) (hc : p c = false) : runE p l a = a := by
  unfold runE
  obtain ⟨ha, e⟩ := List.getElem?_eq_some_iff.mp h
  rw [List.drop_eq_getElem_cons ha, e, List.takeWhile_cons, if_neg (by rw [hc]; decide)]; rfl
theorem runE_end {p : Nat → Bool} {l : List Nat} : runE p l l.length = l.length := by
  unfold runE; rw [List.drop_length]; rfl
theorem runE_le {p : Nat → Bool} {l : List Nat} {a : Nat} (h : a ≤ l.length) : runE p l a ≤ l.length := by
  unfold runE
  have h1 := (List.takeWhile_sublist (l := l.drop a) p).length_le
  rw [List.length_drop] at h1; omega
def sp_end_of_run : Sp := fun vs H Q _ => ∃ (t sg : Str) (a : Nat), vs = [.str t, .int a, .str sg] ∧ t.length ≤ 100000 ∧ sg.length ≤ 100000 ∧ a ≤ t.length ∧
  Q (.int (runE (fun c => decide (c ∈ sg.cps.toList)) t.cps.toList a : Nat)) H
theorem ok_end_of_run (T : Top K mg) : FnOk P w K mg base CX0 1 T.a_end_of_run T.d_end_of_run ["text", "start", "signs"] sp_end_of_run := by

  refine T.F_end_of_run.ok sc_end_of_run (fun vs H Q E h => ?_) (fun cdv A outer s H vs Q E hr h => ?_)
  · obtain ⟨t, sg, a, rfl, _⟩ := h
    rfl
  · obtain ⟨t, sg, a, rfl, ht, hs, ha, q⟩ := h
    refine ⟨_, (pss_cons (ps_set (i := 3) sc_end_of_run.nd rfl (Or.inl rfl) (pv 1))
      (pss_cons (ps_while PassesOwn.never (PW.pt (pw_and (pt_cmpR op_lt (pv 3) (pe_callB call_len_str (by rfl) T.z_len (by decide +kernel) (pa_cons (pv 0) pa_nil)) (nomark _)) (pw_and1 (pt_cmpR op_in_sign (pe_ix ix_str (pv 0) (pv 3) (fun _ _ => rfl)) (pv 2) (by rfl))))) (pss_one (ps_aug (i := 3) sc_end_of_run.nd rfl (Or.inl rfl) pe_int ip_add)))
      (pss_one (ps_ret (pv 3))))), ?_⟩
    have hst : start ["text", "start", "signs", "end"] [.str t, .int a, .str sg] = [some (.str t), some (.int a), some (.str sg), none] := rfl
    rw [hst]
    walk_at "rd"
    have hl : t.cps.toList.length = t.length := Array.length_toList
    generalize hp : (fun c => decide (c ∈ sg.cps.toList)) = p at q
    refine ⟨fun m σ' H' => ∃ e : Nat, σ' = [some (.str t), some (.int a), some (.str sg), some (.int e)] ∧ H' = H ∧ m = t.length - e ∧ e ≤ t.length ∧ runE p t.cps.toList e = runE p t.cps.toList a, ⟨_, a, rfl, rfl, rfl, ha, rfl⟩, ?_⟩
    rintro m σ' H' ⟨e, rfl, rfl, rfl, he, hv⟩
    walk_at "rd"
    refine ⟨sz_of ht, ?_⟩
    by_cases hlt : e < t.length
    · rw [decide_eq_true (by omega : (e : Int) < (t.length : Int))]
      walk_at "rd"
      obtain ⟨c, hc⟩ : ∃ c, t.cps.toList[e]? = some c := ⟨_, List.getElem?_eq_getElem (by omega)⟩
      refine ix_str_at ht (by omega) (by simpa using hc) ?_
      walk_at "rd"
      refine ⟨c, rfl, ?_⟩
      cases hpc : decide (c ∈ sg.cps.toList)
      · walk_at "rd"
        have := runE_stop (p := p) hc (by rw [← hp]; exact hpc)
        rw [← hv, this] at q
        exact q
      · walk_at "rd"
        refine ⟨fun σ2 H2 => σ2 = [some (.str t), some (.int a), some (.str sg), some (.int (e + 1 : Nat))] ∧ H2 = H', ?_, ?_⟩
        · rintro _ _ ⟨rfl, rfl⟩
          exact ⟨t.length - (e + 1), by omega, e + 1, rfl, rfl, rfl, by omega, (runE_go hc (by rw [← hp]; exact hpc)).trans hv⟩
        · walk_at "rd"
          exact ⟨_, _, rfl, rfl, by simp, rfl⟩
    · rw [decide_eq_false (by omega : ¬ (e : Int) < (t.length : Int))]
      walk_at "rd"
      have e1 : e = t.cps.toList.length := by omega
      have := runE_end (p := p) (l := t.cps.toList)
      rw [← e1, hv] at this
      rw [this] at q
      exact q
/-! ### read_integer, of digits alone -/
def cntV : Option Nat → V
  | none => .non
  | some n => .int n
def rint (ds : List Nat) : Option Nat :=
  if ds.length = 0 ∨ 60 < ds.length then none else if digs (NumText.digitsVal ds) = ds then some (NumText.digitsVal ds) else none
theorem rcount_rint (ds : List Nat) : rcount ds = match rint ds with | some n => if n ≤ 10 ^ 30 then some n else none | none => none := by
  unfold rcount rint
  by_cases h0 : ds.length = 0
  · rw [if_pos (.inl h0), if_pos (.inl h0)]
  by_cases h60 : 60 < ds.length
  · rw [if_pos (.inr (by omega)), if_pos (.inr h60)]
  rw [if_neg (by omega : ¬ (ds.length = 0 ∨ 60 < ds.length))]
  by_cases h : digs (NumText.digitsVal ds) = ds
  · rw [if_pos h]
    by_cases h31 : 31 < ds.length
    · rw [if_pos (.inr h31)]
      have : ¬ NumText.digitsVal ds ≤ 10 ^ 30 := fun hc => by
        have e := digs_lt (k := 31) (by decide) (Nat.lt_of_le_of_lt hc (by decide))
        rw [h] at e
        omega
      simp only [if_neg this]
    · rw [if_neg (by omega)]
      by_cases hc : NumText.digitsVal ds ≤ 10 ^ 30
      · simp only [if_pos hc, if_pos (And.intro hc h)]
      · simp only [if_neg hc, if_neg (fun (x : _ ∧ _) => hc x.1)]
  · rw [if_neg h]
    simp only [if_neg (fun (x : NumText.digitsVal ds ≤ 10 ^ 30 ∧ _) => h x.2), ite_self]
def sp_read_integer : Sp := fun vs H Q _ => ∃ z : Str, vs = [.str z] ∧ z.length ≤ 100000 ∧ (tl z).all isDig = true ∧ Q (cntV (rint (tl z))) H
theorem digs_alldig {l : List Nat} (h : l.all isDig = true) : NumText.AllDigits l := by
  intro c hc
  have := List.all_eq_true.mp h c hc
  simpa [isDig] using this
theorem digits_list : (Str.ofString "0123456789").cps.toList = [48,49,50,51,52,53,54,55,56,57] := by decide +kernel
theorem strip_digs {z : Str} (h : (tl z).all isDig = true) : Txt.stripChars z (Str.ofString "0123456789") = Str.ofString "" := by
  refine tl_inj ?_
  show (Txt.stripChars z (Str.ofString "0123456789")).cps.toList = _
  unfold Txt.stripChars
  rw [strip_none (g := (Str.ofString "0123456789").cps.contains)]
  · rfl
  · rw [List.all_eq_true] at h ⊢
    intro c hc
    have := h c hc
    rw [Array.contains_eq_mem, decide_eq_true_eq, Array.mem_def, digits_list]
    simp only [isDig, Bool.and_eq_true, decide_eq_true_eq] at this
    simp only [List.mem_cons, List.not_mem_nil, or_false]
    omega
theorem noprefix {z : Str} (h : (tl z).all isDig = true) : Txt.removeprefix z (Str.ofString "-") = z := by
  unfold Txt.removeprefix
  have : Builtin.Str.subAt z (Str.ofString "-") 0 = false := by
    cases e : Builtin.Str.subAt z (Str.ofString "-") 0 with
    | false => rfl
    | true =>
      unfold Builtin.Str.subAt at e
      have e1 := congrArg Array.toList (beq_iff_eq.mp e)
      rw [Array.toList_extract, show (Str.ofString "-").cps.toList = [45] by decide +kernel, show 0 + (Str.ofString "-").length = 1 by decide +kernel] at e1
      have hz : tl z = z.cps.toList := rfl
      rw [← hz] at e1
      cases ez : tl z with
      | nil => rw [ez] at e1; simp at e1
      | cons c l =>
        rw [ez] at e1 h
        simp at e1
        rw [List.all_cons, e1] at h
        simp [isDig] at h
  rw [this]
  rfl
theorem foldDigs_lt : ∀ (l : List Nat) (a : Nat), NumText.AllDigits l → l.foldl (fun acc c => acc * 10 + (c - 48)) a < (a + 1) * 10 ^ l.length
  | [], a, _ => by simp
  | c :: l, a, h => by
    have hc := h c List.mem_cons_self
    have ih := foldDigs_lt l (a * 10 + (c - 48)) (fun d hd => h d (List.mem_cons_of_mem _ hd))
    rw [List.foldl_cons, List.length_cons, Nat.pow_succ]
    refine Nat.lt_of_lt_of_le ih ?_
    rw [Nat.mul_comm (10 ^ l.length) 10, ← Nat.mul_assoc]
    exact Nat.mul_le_mul_right _ (by omega)
theorem digitsVal_lt (l : List Nat) (h : NumText.AllDigits l) : NumText.digitsVal l < 10 ^ l.length := by
  have := foldDigs_lt l 0 h
  rw [Nat.zero_add, Nat.one_mul] at this
  exact this
theorem digitsVal_log {l : List Nat} (h : NumText.AllDigits l) (hl : l.length ≤ 60) : (NumText.digitsVal l).log2 < 1920 := by
  by_cases h0 : NumText.digitsVal l = 0
  · rw [h0]; decide
  · refine (Nat.log2_lt h0).mpr (Nat.lt_of_lt_of_le (digitsVal_lt l h) (Nat.le_trans (Nat.pow_le_pow_right (by decide) hl) (by decide +kernel)))
theorem ok_read_integer (T : Top K mg) : FnOk P w K mg base CX0 1 T.a_read_integer T.d_read_integer ["text"] sp_read_integer := by

  refine T.F_read_integer.ok sc_read_integer (fun vs H Q E h => ?_) (fun cdv A outer s H vs Q E hr h => ?_)
  · obtain ⟨z, rfl, _⟩ := h
    rfl
  · obtain ⟨z, rfl, hz, hd, q⟩ := h
    refine ⟨_, (pss_cons (ps_set (i := 1) sc_read_integer.nd rfl (Or.inl rfl) (pe_bm PySem.F.plainAttrs_str PySem.F.slot_str_removeprefix PySem.F.type_str_removeprefix mt_removeprefix (pv 0) (pa_cons pe_str pa_nil)))
      (pss_cons (ps_if (PW.pt (pw_or (pt_cmpR op_eq (pv 1) pe_str (nomark _)) (pw_or (pt_cmpR op_ne (pe_bm PySem.F.plainAttrs_str PySem.F.slot_str_strip PySem.F.type_str_strip mt_stripChars (pv 1) (pa_cons (pe_glob (v := .str "0123456789") (by rfl) T.c_DIGITS ⟨_, rfl⟩) pa_nil)) pe_str (nomark _)) (pw_or1 (pt_cmpR op_gt (pe_callB call_len_str (by rfl) T.z_len (by decide +kernel) (pa_cons (pv 1) pa_nil)) (pe_glob (v := .int 60) (by rfl) T.c_MOST_DIGITS ⟨_, rfl⟩) (nomark _)))))) (pss_one (ps_ret pe_non)) pss_nil)
      (pss_cons (ps_set (i := 2) sc_read_integer.nd rfl (Or.inl rfl) (pe_callTy call_int_str (by rfl) T.z_int (by decide +kernel) (pa_cons (pv 0) pa_nil)))
      (pss_one (ps_ret (pe_ifExp (pt_cmpR op_eq (pe_callTy call_str_int (by rfl) T.z_str (by decide +kernel) (pa_cons (pv 2) pa_nil)) (pv 0) (nomark _)) (pv 2) pe_non)))))), ?_⟩
    have hst : start ["text", "digits", "number"] [.str z] = [some (.str z), none, none] := rfl
    rw [hst]
    walk_at "rd"
    rw [noprefix hd, strip_digs hd]
    have hl : (tl z).length = z.length := Array.length_toList
    refine ⟨sz_of hz, ?_⟩
    by_cases h0 : z = Str.ofString ""
    · rw [decide_eq_true h0]
      have : rint (tl z) = none := by rw [h0]; rfl
      rw [this] at q
      exact q
    rw [decide_eq_false h0]
    have hne : tl z ≠ [] := fun e => h0 (tl_inj e)
    have hpos : (tl z).length ≠ 0 := fun e => hne (List.eq_nil_of_length_eq_zero e)
    rw [if_neg (by decide), decide_eq_true rfl]
    refine ⟨sz_of hz, ?_⟩
    rw [if_neg (by decide)]
    refine ⟨sz_of hz, ?_⟩
    by_cases h60 : 60 < z.length
    · rw [decide_eq_true (by omega : (60 : Int) < (z.length : Int))]
      have : rint (tl z) = none := by unfold rint; rw [if_pos (by omega)]
      rw [this] at q
      exact q
    rw [decide_eq_false (by omega : ¬ (60 : Int) < (z.length : Int)), if_neg (by decide)]
    have ev : rint (tl z) = if digs (NumText.digitsVal (tl z)) = tl z then some (NumText.digitsVal (tl z)) else none := by
      unfold rint; rw [if_neg (by omega)]
    have hlog := digitsVal_log (digs_alldig hd) (by omega : (tl z).length ≤ 60)
    refine ⟨_, intText_digits (x := z) (digs_alldig hd) hne (by omega), by omega, ?_⟩
    generalize hn : NumText.digitsVal (tl z) = n at ev hlog
    refine ⟨by rw [Int.natAbs_natCast]; exact hlog, ?_⟩
    have e2 : tl (Str.ofString (toString (n : Int))) = digs n := PySem.W.KIN.signs_num n
    by_cases e : digs n = tl z
    · rw [decide_eq_true (tl_inj (e2.trans e)), if_pos rfl]
      rw [ev, if_pos e] at q
      exact q
    · rw [decide_eq_false (fun h => e (by rw [← e2, h])), if_neg (by decide)]
      rw [ev, if_neg e] at q
      exact q
/-! ### read_parts -/
theorem sg_eq (c : Nat) (z : String) (d : Nat) (h : Str.ofString z = ⟨#[d]⟩) : ((⟨#[c]⟩ : Str) = Str.ofString z) ↔ c = d := by
  rw [h]
  constructor
  · intro e
    injection e with e
    simpa using e
  · rintro rfl; rfl
theorem mem_digits : (fun c => decide (c ∈ (Str.ofString "0123456789").cps.toList)) = isDig := by
  funext c
  have e : (Str.ofString "0123456789").cps.toList = [48,49,50,51,52,53,54,55,56,57] := by decide +kernel
  rw [e, Bool.eq_iff_iff]
  simp only [isDig, decide_eq_true_eq, Bool.and_eq_true, List.mem_cons, List.not_mem_nil, or_false]
  omega
theorem mem_steps : (fun c => decide (c ∈ (Str.ofString "abcdefghijklmnopqrstuvwxyz-").cps.toList)) = isStep := by
  funext c
  have e : (Str.ofString "abcdefghijklmnopqrstuvwxyz-").cps.toList = [97,98,99,100,101,102,103,104,105,106,107,108,109,110,111,112,113,114,115,116,117,118,119,120,121,122,45] := by decide +kernel
  rw [e, Bool.eq_iff_iff]
  simp only [isStep, isLet, Bool.or_eq_true, decide_eq_true_eq, Bool.and_eq_true, List.mem_cons, List.not_mem_nil, or_false]
  omega
theorem take_run (p : Nat → Bool) (l : List Nat) (a : Nat) : (l.drop a).take (runE p l a - a) = (l.drop a).takeWhile p ∧ l.drop (runE p l a) = (l.drop a).dropWhile p := by
  have h := List.takeWhile_append_dropWhile (p := p) (l := l.drop a)
  have e : runE p l a - a = ((l.drop a).takeWhile p).length := by unfold runE; omega
  constructor
  · rw [e]
    conv => lhs; arg 2; rw [← h]
    exact List.take_left
  · have e2 : l.drop (runE p l a) = (l.drop a).drop ((l.drop a).takeWhile p).length := by rw [List.drop_drop]; rfl
    rw [e2]
    conv => lhs; arg 2; rw [← h]
    exact List.drop_left
theorem cut_run {t : Str} (p : Nat → Bool) {a : Nat} (h : a ≤ t.length) : tl (cutS t (some (a : Int)) (some (runE p t.cps.toList a : Nat))) = (t.cps.toList.drop a).takeWhile p := by
  have h2 : runE p t.cps.toList a ≤ t.length := by
    have := runE_le (p := p) (l := t.cps.toList) (a := a) (by rw [Array.length_toList]; exact h)
    rw [Array.length_toList] at this
    exact this
  have e1 : HT.sIx t.length 0 (some (a : Int)) = a := by
    simp only [HT.sIx]
    rw [if_neg (by omega)]; omega
  have e2 : HT.sIx t.length t.length (some (runE p t.cps.toList a : Nat)) = runE p t.cps.toList a := by
    simp only [HT.sIx]
    rw [if_neg (by omega)]; omega
  show ((t.cps.toList.drop (HT.sIx t.length 0 (some (a : Int)))).take (HT.sIx t.length t.length (some (runE p t.cps.toList a : Nat)) - HT.sIx t.length 0 (some (a : Int)))).toArray.toList = _
  rw [e1, e2]
  exact (take_run p _ a).1
theorem stp_close (os : List Parts) (ps : Parts) {c : Nat} (r : List Nat) (h : c = 41) : stp os ps c r = match rcount (r.takeWhile isDig), os with
            | some n, o :: os' => if os'.length ≤ 20 then some (os', o.app (.rep ps n .nil), r.dropWhile isDig) else none
            | _, _ => none := by
  unfold stp
  rw [if_neg (by omega), if_pos h]
  try (cases rcount (r.takeWhile isDig) <;> cases os <;> rfl)
def sp_read_parts : Sp := fun vs H Q _ => ∃ t : Str, vs = [.str t] ∧ t.length ≤ 100000 ∧ (rpt (tl t) = none → ∀ H1, Same H H1 → Q .non H1) ∧
  ∀ ps, rpt (tl t) = some ps → ∀ p H1, Same H H1 → H p = none → PartsAt H1 p ps → Q (.ref p) H1
def RIn (H0 : Hp) (t : Str) (m : Nat) (σ : L2.St) (H' : Hp) : Prop := ∃ (i k : Nat) (p q : Addr) (as : List Addr) (os : List Parts) (ps : Parts) (F : Hp) (x4 x5 x6 : Option V),
  σ = [some (.str t), some (.ref p), some (.ref q), some (.int i), x4, x5, x6] ∧ m = t.length - i ∧ i ≤ t.length ∧ rpF k os ps ((tl t).drop i) = rpt (tl t) ∧ t.length - i < k ∧ os.length ≤ 20 ∧
  Lay H0 F H' p q as os ps i
theorem ok_read_parts (T : Top K mg) : FnOk P w K mg base CX0 4 T.a_read_parts T.d_read_parts ["text"] sp_read_parts := by
  have G_end_of_run := ok_end_of_run (w := w) (base := base) T
  have G_read_integer := ok_read_integer (w := w) (base := base) T
  have G_is_count := ok_is_count (w := w) (base := base) T
  refine T.F_read_parts.ok sc_read_parts (fun vs H Q E h => ?_) (fun cdv A outer s H vs Q E hr h => ?_)
  · obtain ⟨t, rfl, _⟩ := h
    rfl
  · obtain ⟨t, rfl, ht, qn, qs⟩ := h
    refine ⟨_, (pss_cons (ps_set (i := 1) sc_read_parts.nd rfl (Or.inl rfl) (pe_lst pa_nil))
      (pss_cons (ps_set (i := 2) sc_read_parts.nd rfl (Or.inl rfl) (pe_lst pa_nil))
      (pss_cons (ps_set (i := 3) sc_read_parts.nd rfl (Or.inl rfl) pe_int)
      (pss_cons (ps_while PassesOwn.never (pt_cmpR op_lt (pv 3) (pe_callB call_len_str (by rfl) T.z_len (by decide +kernel) (pa_cons (pv 0) pa_nil)) (nomark _)) (pss_cons (ps_if (pt_cmpR op_eq (pe_ix ix_str (pv 0) (pv 3) (fun _ _ => rfl)) pe_str (nomark _)) (pss_cons (ps_expr (pe_bm PySem.F.plainAttrs_list PySem.F.slot_list_append PySem.F.type_list_append mt_append (pv 1) (pa_cons (pv 2) pa_nil)))
      (pss_cons (ps_set (i := 2) sc_read_parts.nd rfl (Or.inl rfl) (pe_lst pa_nil))
      (pss_one (ps_set (i := 4) sc_read_parts.nd rfl (Or.inl rfl) (pe_op op_add (pv 3) pe_int))))) (pss_one (ps_if (pt_cmpR op_eq (pe_ix ix_str (pv 0) (pv 3) (fun _ _ => rfl)) pe_str (nomark _)) (pss_cons (ps_set (i := 4) sc_read_parts.nd rfl (Or.inl rfl) (pe_call G_end_of_run (hr.mono (by first | decide | omega)) rfl T.m_end_of_run T.F_end_of_run.kp T.b_end_of_run .nil pass0 (pa_cons (pv 0) (pa_cons (pe_op op_add (pv 3) pe_int) (pa_cons (pe_glob (v := .str "0123456789") (by rfl) T.c_DIGITS ⟨_, rfl⟩) pa_nil)))))
      (pss_cons (ps_set (i := 5) sc_read_parts.nd rfl (Or.inl rfl) (pe_call G_read_integer (hr.mono (by first | decide | omega)) rfl T.m_read_integer T.F_read_integer.kp T.b_read_integer .nil pass0 (pa_cons (pe_slice sl_str (pv 0) (po_some (pe_op op_add (pv 3) pe_int)) (po_some (pv 4))) pa_nil)))
      (pss_cons (ps_if (PW.pt (pw_or (pt_not (pt_val (pe_call G_is_count (hr.mono (by first | decide | omega)) rfl T.m_is_count T.F_is_count.kp T.b_is_count .nil pass0 (pa_cons (pv 5) pa_nil)))) (pw_or1 (pt_cmpR op_eq (pe_callB call_len_seq (by rfl) T.z_len (by decide +kernel) (pa_cons (pv 1) pa_nil)) pe_int (nomark _))))) (pss_one (ps_ret pe_non)) pss_nil)
      (pss_cons (ps_set (i := 6) sc_read_parts.nd rfl (Or.inl rfl) (pe_tup (pa_cons (pv 2) (pa_cons (pv 5) pa_nil))))
      (pss_cons (ps_set (i := 2) sc_read_parts.nd rfl (Or.inl rfl) (pe_bm0 PySem.F.plainAttrs_list PySem.F.slot_list_pop PySem.F.type_list_pop mt_pop (pv 1)))
      (pss_one (ps_expr (pe_bm PySem.F.plainAttrs_list PySem.F.slot_list_append PySem.F.type_list_append mt_append (pv 2) (pa_cons (pv 6) pa_nil))))))))) (pss_cons (ps_set (i := 4) sc_read_parts.nd rfl (Or.inl rfl) (pe_call G_end_of_run (hr.mono (by first | decide | omega)) rfl T.m_end_of_run T.F_end_of_run.kp T.b_end_of_run .nil pass0 (pa_cons (pv 0) (pa_cons (pv 3) (pa_cons (pe_glob (v := .str "abcdefghijklmnopqrstuvwxyz-") (by rfl) T.c_STEPS ⟨_, rfl⟩) pa_nil)))))
      (pss_one (ps_expr (pe_bm PySem.F.plainAttrs_list PySem.F.slot_list_append PySem.F.type_list_append mt_append (pv 2) (pa_cons (pe_slice sl_str (pv 0) (po_some (pv 3)) (po_some (pv 4))) pa_nil))))))))
      (pss_cons (ps_if (PW.pt (pw_or (pt_cmpR op_eq (pv 4) (pv 3) (nomark _)) (pw_or1 (pt_cmpR op_gt (pe_callB call_len_seq (by rfl) T.z_len (by decide +kernel) (pa_cons (pv 1) pa_nil)) (pe_glob (v := .int 20) (by rfl) T.c_MOST_DEPTH ⟨_, rfl⟩) (nomark _))))) (pss_one (ps_ret pe_non)) pss_nil)
      (pss_one (ps_set (i := 3) sc_read_parts.nd rfl (Or.inl rfl) (pv 4))))))
      (pss_one (ps_ret (pe_ifExp (pt_cmpR op_eq (pe_callB call_len_seq (by rfl) T.z_len (by decide +kernel) (pa_cons (pv 1) pa_nil)) pe_int (nomark _)) (pv 2) pe_non))))))), ?_⟩
    have hst : start ["text", "outer", "parts", "at", "end", "count", "repetition"] [.str t] = [some (.str t), none, none, none, none, none, none] := rfl
    rw [hst]
    walk_at "rd"
    have hl : (tl t).length = t.length := Array.length_toList
    refine ⟨by walk_at "sz", fun p hp => ⟨by walk_at "sz", fun q hq => ?_⟩⟩
    refine ⟨RIn H t, ⟨_, 0, t.length + 1, p, q, [], [], .nil, H, none, none, none, rfl, rfl, Nat.zero_le _, by rw [← hl]; rfl, by omega, by decide, Lay.init hp hq⟩, ?_⟩
    rintro m σ H' ⟨i, k, p, q, as, os, ps, F, x4, x5, x6, rfl, rfl, hi, hrp, hk, h20, L⟩
    walk_at "rd"
    refine ⟨sz_of ht, ?_⟩
    have hao : as.length = os.length := L.op.len
    have hpl : SqL K H' p (as.reverse.map V.ref) := SqL.of L.hp
    by_cases hlt : i < t.length
    · rw [decide_eq_true (by omega : (i : Int) < (t.length : Int))]
      walk_at "rd"
      obtain ⟨c, hc⟩ : ∃ c, t.cps.toList[i]? = some c := ⟨_, List.getElem?_eq_getElem (by rw [Array.length_toList]; exact hlt)⟩
      have hdr : (tl t).drop i = c :: (tl t).drop (i + 1) := by
        obtain ⟨hi', e⟩ := List.getElem?_eq_some_iff.mp hc
        rw [List.drop_eq_getElem_cons (by omega)]
        congr 1
      obtain ⟨k, rfl⟩ : ∃ k', k = k' + 1 := ⟨k - 1, by omega⟩
      rw [hdr, rpF] at hrp
      refine ⟨fun σ' H'' => ∃ m', m' < t.length - i ∧ RIn H t m' σ' H'', fun _ _ h => h, ?_⟩
      refine ix_str_at ht (by omega) (by simpa using hc) ?_
      have e40 : decide (V.str ⟨#[c]⟩ = V.str (Str.ofString "(")) = decide (c = 40) := decide_eq_decide.mpr (by rw [V.str.injEq]; exact sg_eq c "(" 40 (by decide +kernel))
      have e41 : decide (V.str ⟨#[c]⟩ = V.str (Str.ofString ")")) = decide (c = 41) := decide_eq_decide.mpr (by rw [V.str.injEq]; exact sg_eq c ")" 41 (by decide +kernel))
      have fin : ∀ H1, Same F H1 → stp os ps c ((tl t).drop (i + 1)) = none → Q .non H1 := fun H1 s1 e => by
        rw [e] at hrp
        exact qn hrp.symm H1 (fun b u z => s1 b u (L.s0 b u z))
      refine ⟨rfl, ?_⟩
      rw [e40]
      by_cases c40 : c = 40
      · rw [decide_eq_true c40, if_pos rfl]
        refine ⟨.inl ⟨_, hpl⟩, _, _, _, rfl, rfl, L.hp, by simp only [List.length_map, List.length_reverse]; exact Nat.lt_of_le_of_lt (by omega : as.length ≤ 100000) (by decide), by walk_at "sz", fun r hr => ?_⟩
        rw [decide_eq_false (by omega), if_neg (by decide)]
        have L2 := L.opn hr
        have hpl2 : SqL K _ p (List.map V.ref (q :: as).reverse) := SqL.of (K := K) L2.hp
        refine ⟨_, .inl hpl2, ?_⟩
        simp only [List.length_map, List.length_reverse, List.length_cons]
        have es : stp os ps c ((tl t).drop (i + 1)) = if os.length + 1 ≤ 20 then some (ps :: os, .nil, (tl t).drop (i + 1)) else none := by unfold stp; rw [if_pos c40]
        by_cases hb : os.length + 1 ≤ 20
        · rw [decide_eq_false (by omega), if_neg (by decide)]
          rw [es, if_pos hb] at hrp
          refine ⟨t.length - (i + 1), by omega, i + 1, k, p, r, q :: as, ps :: os, .nil, F, some (.int (i + 1 : Nat)), x5, x6, rfl, rfl, by omega, hrp, by omega, hb, L2⟩
        · rw [decide_eq_true (by omega), if_pos rfl]
          exact fin _ L2.s1 (by rw [es, if_neg hb])
      rw [decide_eq_false c40, if_neg (by decide)]
      refine ix_str_at ht (by omega) (by simpa using hc) ⟨rfl, ?_⟩
      rw [e41]
      by_cases c41 : c = 41
      · rw [decide_eq_true c41, if_pos rfl]
        simp only [sp_end_of_run]
        have hii : i + 1 ≤ t.length := hlt
        have hle : runE isDig t.cps.toList (i + 1) ≤ t.length := by
          have := runE_le (p := isDig) (l := t.cps.toList) (a := i + 1) (by rw [Array.length_toList]; exact hii)
          rw [Array.length_toList] at this
          exact this
        have hge : i + 1 ≤ runE isDig t.cps.toList (i + 1) := Nat.le_add_right _ _
        refine ⟨t, Str.ofString "0123456789", i + 1, rfl, ht, by decide +kernel, hii, _, rfl, ?_⟩
        rw [mem_digits]
        refine ⟨t, rfl, sz_of ht, ?_⟩
        simp only [sp_read_integer]
        have hcut : tl (cutS t (some ((i : Int) + 1)) (some (runE isDig t.cps.toList (i + 1) : Nat))) = ((tl t).drop (i + 1)).takeWhile isDig := cut_run isDig hii
        refine ⟨_, rfl, Nat.le_trans (cutS_length _ _ _) ht, ?_, ?_⟩
        · rw [hcut]; exact List.all_takeWhile
        rw [hcut]
        have es := stp_close os ps ((tl t).drop (i + 1)) c41
        rw [rcount_rint] at es
        simp only [sp_has]
        cases ec : rint (((tl t).drop (i + 1)).takeWhile isDig) with
        | none =>
          rw [ec] at es
          refine ⟨_, rfl, .non, ?_⟩
          exact ⟨false, rfl, fin _ L.s1 es⟩
        | some n =>
          rw [ec] at es
          dsimp only at es
          refine ⟨_, rfl, .int _, ?_⟩
          have ei : isCountV (cntV (some n)) = decide (n ≤ 10 ^ 30) := by
            show (decide (0 ≤ (n : Int)) && decide ((n : Int) ≤ 10 ^ 30)) = _
            rw [decide_eq_true (by omega : (0 : Int) ≤ (n : Int)), Bool.true_and]
            exact decide_eq_decide.mpr (by omega)
          rw [ei]
          by_cases hc30 : n ≤ 10 ^ 30
          case neg =>
            rw [if_neg hc30] at es
            rw [decide_eq_false hc30]
            exact ⟨false, rfl, fin _ L.s1 es⟩
          rw [if_pos hc30] at es
          rw [decide_eq_true hc30]
          refine ⟨true, rfl, ?_⟩
          rw [Bool.not_true, if_neg (by decide)]
          refine ⟨_, .inl hpl, ?_⟩
          simp only [List.length_map, List.length_reverse]
          cases os with
          | nil =>
            rw [decide_eq_true (by rw [hao]; rfl), if_pos rfl]
            exact fin _ L.s1 es
          | cons o os =>
            cases as with
            | nil => cases hao
            | cons a as =>
              have h20' : os.length ≤ 20 := by rw [List.length_cons] at h20; omega
              simp only at es
              rw [if_pos h20'] at es
              rw [decide_eq_false (by rw [List.length_cons]; omega), if_neg (by decide)]
              refine ⟨by walk_at "sz", fun r hr => ?_⟩
              obtain ⟨vq, hq, _, _⟩ := L.hq
              obtain ⟨⟨va, ha, pa, la⟩, _⟩ := L.op
              have rp : p ≠ r := fun e => by rw [← e, L.hp] at hr; cases hr
              have ra : a ≠ r := fun e => by rw [← e, ha] at hr; cases hr
              have nd := L.nd
              simp only [List.nodup_cons, List.mem_cons, not_or] at nd
              have ap : a ≠ p := Ne.symm nd.1.2.1
              obtain ⟨F', L2⟩ := L.cls (r := r) (c := n) hr ha (by omega) (m := runE isDig t.cps.toList (i + 1)) hge
              have hp1 : upd H' r (.tup [.ref q, cntV (some n)]) p = some (.lst ((a :: as).reverse.map V.ref)) := by rw [upd_ne rp]; exact L.hp
              refine ⟨.inl ⟨_, SqL.of hp1⟩, p, _, .ref a, rfl, rfl, hp1, by simp, ?_⟩
              have ha2 : upd (upd H' r (.tup [.ref q, cntV (some n)])) p (.lst ((a :: as).reverse.map V.ref).dropLast) a = some (.lst va) := by rw [upd_ne ap, upd_ne ra]; exact ha
              refine ⟨.inl ⟨_, SqL.of ha2⟩, a, va, _, rfl, rfl, ha2, Nat.lt_of_le_of_lt (by omega : va.length ≤ 100000) (by decide), trivial, ?_⟩
              rw [decide_eq_false (by simp only [V.int.injEq]; omega), if_neg (by decide)]
              refine ⟨_, .inl (SqL.of L2.hp), ?_⟩
              have hao' : as.length = os.length := L2.op.len
              simp only [List.length_map, List.length_reverse]
              rw [decide_eq_false (by omega), if_neg (by decide)]
              rw [es] at hrp
              refine ⟨t.length - runE isDig t.cps.toList (i + 1), by omega, _, k, p, a, as, os, _, F', _, _, _, rfl, rfl, hle, ?_, by omega, h20', L2⟩
              rw [← hrp]
              exact congrArg _ (take_run isDig (tl t) (i + 1)).2
      · rw [decide_eq_false c41, if_neg (by decide)]
        simp only [sp_end_of_run]
        walk_at "rd"
        have hle : runE isStep t.cps.toList i ≤ t.length := by
          have := runE_le (p := isStep) (l := t.cps.toList) (a := i) (by rw [Array.length_toList]; exact hi)
          rw [Array.length_toList] at this
          exact this
        obtain ⟨vq, hq, _, lq⟩ := L.hq
        refine ⟨Str.ofString "abcdefghijklmnopqrstuvwxyz-", i, rfl, rfl, ht, by decide +kernel, hi, .inl ⟨_, SqL.of hq⟩, ?_⟩
        rw [mem_steps]
        refine ⟨t, rfl, sz_of ht, q, vq, _, rfl, rfl, hq, Nat.lt_of_le_of_lt (by omega : vq.length ≤ 100000) (by decide), ?_⟩
        have es : stp os ps c ((tl t).drop (i + 1)) = if isStep c then (if os.length ≤ 20 then some (os, ps.app (.seq ((c :: (tl t).drop (i + 1)).takeWhile isStep) .nil), (c :: (tl t).drop (i + 1)).dropWhile isStep) else none) else none := by
          conv => lhs; unfold stp
          rw [if_neg c40, if_neg c41]
        have hcut : tl (cutS t (some (i : Int)) (some (runE isStep t.cps.toList i : Nat))) = ((tl t).drop i).takeWhile isStep := cut_run isStep hi
        by_cases hsc : isStep c = true
        · have hgo : runE isStep t.cps.toList (i + 1) = runE isStep t.cps.toList i := runE_go hc hsc
          have hge : i + 1 ≤ runE isStep t.cps.toList i := by rw [← hgo]; exact Nat.le_add_right _ _
          have L2 := L.add (s := cutS t (some (i : Int)) (some (runE isStep t.cps.toList i : Nat))) hq hge
          rw [decide_eq_false (by omega)]
          refine ⟨_, .inl (SqL.of L2.hp), ?_⟩
          simp only [List.length_map, List.length_reverse]
          rw [decide_eq_false (by omega), if_neg (by decide)]
          rw [if_pos hsc, if_pos h20] at es
          rw [es] at hrp
          refine ⟨t.length - runE isStep t.cps.toList i, by omega, _, k, p, q, as, os, _, F, _, _, _, rfl, rfl, hle, ?_, by omega, h20, L2⟩
          rw [← hrp, hcut, hdr]
          have := (take_run isStep (tl t) i).2
          rw [hdr] at this
          exact congrArg _ this
        · have hst2 : runE isStep t.cps.toList i = i := runE_stop hc (by simpa using hsc)
          rw [decide_eq_true (by rw [hst2])]
          rw [if_neg hsc] at es
          exact fin _ (same_mut L.s1 (L.fr q (by simp))) es
    · rw [decide_eq_false (by omega : ¬ (i : Int) < (t.length : Int))]
      walk_at "rd"
      refine ⟨_, .inl hpl, ?_⟩
      simp only [List.length_map, List.length_reverse]
      have hdr : (tl t).drop i = [] := List.drop_eq_nil_of_le (by omega)
      obtain ⟨k, rfl⟩ : ∃ k', k = k' + 1 := ⟨k - 1, by omega⟩
      rw [hdr, rpF] at hrp
      have s1 : Same H H' := L.s0.trans L.s1
      by_cases h0 : os.length = 0
      · rw [decide_eq_true (by omega), if_pos rfl]
        rw [if_pos h0] at hrp
        obtain ⟨vq, hq, pq, lq⟩ := L.hq
        exact qs ps hrp.symm q H' s1 (L.free (by simp)) ⟨vq, hq, by omega, pq.mono L.s1⟩
      · rw [decide_eq_false (by omega), if_neg (by decide)]
        rw [if_neg h0] at hrp
        exact qn hrp.symm H' s1
/-! ### parts_of -/
def progV : V → Option Parts
  | .str t => rpt (tl t)
  | _ => none
def sp_parts_of (K : PySem.W.Frag) (C : Addr) : Sp := fun vs H Q E => ∃ x, vs = [x] ∧ Kd K H x ∧ (progV x = none → ∀ H1, Same H H1 → E (.ref C) none H1) ∧
  ∀ ps, progV x = some ps → ∀ p H1, Same H H1 → H p = none → PartsAt H1 p ps → Q (.ref p) H1
theorem ok_parts_of (T : Top K mg) : FnOk P w K mg base (L2.CX P w) 5 T.a_parts_of T.d_parts_of ["program"] (sp_parts_of K T.x_InvalidProgram) := by
  have G_read_parts := ok_read_parts (w := w) (base := base) T
  refine T.F_parts_of.okX sc_parts_of (fun vs H Q E h => ?_) (fun cdv A outer s H vs Q E hr h => ?_)
  · obtain ⟨x, rfl, _⟩ := h
    rfl
  · obtain ⟨x, rfl, kx, hE, q⟩ := h
    refine ⟨_, (pss_cons (ps_set (i := 1) sc_parts_of.nd rfl (Or.inl rfl) (pe_ifExp (pt_val (pe_callB call_isi (by rfl) T.z_isinstance (by decide +kernel) (pa_cons (pv 0) (pa_cons (pe_bltn (v := .ty "str") (by rfl) T.z_str (by decide +kernel) rfl) pa_nil)))) (pe_call G_read_parts (hr.mono (by first | decide | omega)) rfl T.m_read_parts T.F_read_parts.kp T.b_read_parts .nil pass0 (pa_cons (pv 0) pa_nil)) pe_non))
      (pss_cons (ps_if (pt_cmpR op_isN (pv 1) pe_non (nomark _)) (pss_one (ps_raise rfl (takes_of rfl rfl rfl rfl) (pmk_own PySem.F.excBase_ValueError T.q_InvalidProgram T.g_InvalidProgram T.k_InvalidProgram (raises_own T.b_InvalidProgram T.t_InvalidProgram) rfl))) pss_nil)
      (pss_one (ps_ret (pv 1))))), ?_⟩
    have hst : start ["program", "parts"] [x] = [some x, none] := rfl
    rw [hst]
    walk_at "rd"
    simp only [sp_read_parts]
    refine isi_str kx ⟨_, rfl, ?_⟩
    cases kx with
    | str z hz =>
      refine (if_pos rfl).mpr ⟨z, rfl, hz, fun e H1 s1 => ?_, fun ps e p H1 s1 hn hp => ?_⟩
      · walk_at "rd"
        exact hE e H1 s1
      · rw [decide_eq_false (by simp), if_neg (by decide)]
        exact q ps e p H1 s1 hn hp
    | _ => exact hE rfl H (fun _ _ h => h)

/-! ### how much is read -/
def volS : List Parts → Nat
  | [] => 0
  | o :: os => o.vol + volS os
theorem stp_vol {os ps c r os' ps' r'} (h : stp os ps c r = some (os', ps', r')) : volS os' + ps'.vol + r'.length ≤ volS os + ps.vol + (r.length + 1) := by
  unfold stp at h
  have d1 := len_dropWhile isDig r
  have d2 : ((c :: r).takeWhile isStep).length + ((c :: r).dropWhile isStep).length = r.length + 1 := by
    rw [← List.length_append, List.takeWhile_append_dropWhile]; rfl
  split at h
  · split at h
    · simp only [Option.some.injEq, Prod.mk.injEq] at h
      obtain ⟨rfl, rfl, rfl⟩ := h
      simp only [volS, Parts.vol]; omega
    · cases h
  · split at h
    · split at h
      · split at h
        · simp only [Option.some.injEq, Prod.mk.injEq] at h
          obtain ⟨rfl, rfl, rfl⟩ := h
          simp only [volS, Parts.vol_app, Parts.vol]; omega
        · cases h
      · cases h
    · split at h
      · split at h
        · simp only [Option.some.injEq, Prod.mk.injEq] at h
          obtain ⟨rfl, rfl, rfl⟩ := h
          simp only [Parts.vol_app, Parts.vol]; omega
        · cases h
      · cases h
theorem rpF_vol : ∀ {k os ps r q}, rpF k os ps r = some q → q.vol ≤ volS os + ps.vol + r.length
  | 0, _, _, _, _, h => by cases h
  | _ + 1, os, ps, [], q, h => by
    rw [rpF] at h
    split at h
    · cases h; omega
    · cases h
  | k + 1, os, ps, c :: r, q, h => by
    rw [rpF] at h
    split at h
    · cases h
    · rename_i os' ps' r' e
      have h1 := stp_vol e
      have h2 := rpF_vol h
      rw [List.length_cons]; omega
theorem rpt_vol {t : List Nat} {q : Parts} (h : rpt t = some q) : q.vol ≤ t.length := by
  have := rpF_vol h
  simpa [volS, Parts.vol] using this

def sp_check_count (K : PySem.W.Frag) (CI : Addr) : Sp := fun vs H Q E => ∃ c, vs = [c] ∧ Kd K H c ∧ (isCountV c = false → E (.ref CI) none H) ∧ (isCountV c = true → Q .non H)
theorem ok_check_count (T : Top K mg) : FnOk P w K mg base (L2.CX P w) 4 T.a_check_count T.d_check_count ["value"] (sp_check_count K T.x_InvalidInteger) := by
  have G_is_count := ok_is_count (w := w) (base := base) T
  refine T.F_check_count.okX sc_check_count (fun vs H Q E h => ?_) (fun cdv A outer s H vs Q E hr h => ?_)
  · obtain ⟨c, rfl, _⟩ := h
    rfl
  · obtain ⟨c, rfl, kc, e1, q⟩ := h
    refine ⟨_, (pss_one (ps_if (pt_not (pt_val (pe_call G_is_count (hr.mono (by first | decide | omega)) rfl T.m_is_count T.F_is_count.kp T.b_is_count .nil pass0 (pa_cons (pv 0) pa_nil)))) (pss_one (ps_raise rfl (takes_of rfl rfl rfl rfl) (pmk_own PySem.F.excBase_ValueError T.q_InvalidInteger T.g_InvalidInteger T.k_InvalidInteger (raises_own T.b_InvalidInteger T.t_InvalidInteger) rfl))) pss_nil)), ?_⟩
    have hst : start ["value"] [c] = [some c] := rfl
    rw [hst]
    walk_at "rd"
    simp only [sp_has]
    walk_at "rd"
    refine ⟨kc, ?_⟩
    cases hc : isCountV c with
    | false => exact e1 hc
    | true => exact q hc

/-! ### is_program, depth_of, repeat -/
theorem ok_is_program (T : Top K mg) : FnOk P w K mg base CX0 5 T.a_is_program T.d_is_program ["value"] (fun vs H Q _ => ∃ x, vs = [x] ∧ Kd K H x ∧ ∀ H1, Same H H1 → Q (.bl (progV x).isSome) H1) := by
  have G_read_parts := ok_read_parts (w := w) (base := base) T
  refine T.F_is_program.ok sc_is_program (fun vs H Q E h => ?_) (fun cdv A outer s H vs Q E hr h => ?_)
  · obtain ⟨x, rfl, _⟩ := h
    rfl
  · obtain ⟨x, rfl, kx, q⟩ := h
    refine ⟨_, (pss_one (ps_ret (pe_and (pe_callB call_isi (by rfl) T.z_isinstance (by decide +kernel) (pa_cons (pv 0) (pa_cons (pe_bltn (v := .ty "str") (by rfl) T.z_str (by decide +kernel) rfl) pa_nil))) (pe_one (pe_cmpR op_notN (pe_call G_read_parts (hr.mono (by first | decide | omega)) rfl T.m_read_parts T.F_read_parts.kp T.b_read_parts .nil pass0 (pa_cons (pv 0) pa_nil)) pe_non (nomark _)))))), ?_⟩
    have hst : start ["value"] [x] = [some x] := rfl
    rw [hst]
    walk_at "rd"
    refine isi_str kx ⟨_, rfl, ?_⟩
    cases kx with
    | str z hz =>
      refine (if_pos rfl).mpr ⟨z, rfl, hz, fun e H1 s1 => ?_, fun ps e p H1 s1 hn hp => ?_⟩
      · have := q H1 s1
        rw [show progV (.str z) = none from e] at this
        exact this
      · have := q H1 s1
        rw [show progV (.str z) = some ps from e] at this
        exact this
    | _ => exact q H (fun _ _ h => h)

/-! ### profiles: the defs -/
def isNatV : V → Bool | .int i => decide (0 ≤ i) | _ => false
def isNonposV : V → Bool | .int i => decide (i ≤ 0) | _ => false
theorem ok_is_natural (T : Top K mg) : FnOk P w K mg base CX0 2 T.a_is_natural T.d_is_natural ["value"] (sp_has K isNatV) := by
  have G_is_int := ok_is_int (w := w) (base := base) T
  refine T.F_is_natural.ok sc_is_natural (fun vs H Q E h => ?_) (fun cdv A outer s H vs Q E hr h => ?_)
  · obtain ⟨x, rfl, _⟩ := h
    rfl
  · obtain ⟨x, rfl, kx, q⟩ := h
    refine ⟨_, (pss_one (ps_ret (pe_and (pe_call G_is_int (hr.mono (by first | decide | omega)) rfl T.m_is_int T.F_is_int.kp T.b_is_int .nil pass0 (pa_cons (pv 0) pa_nil)) (pe_one (pe_cmpR op_ge (pv 0) pe_int (nomark _)))))), ?_⟩
    have hst : start ["value"] [x] = [some x] := rfl
    rw [hst]
    walk_at "rd"
    simp only [sp_is_int]
    walk_at "rd"
    refine ⟨kx, ?_⟩
    cases x <;> simp only [isIntV] <;> walk_at "rd" <;> exact q
def sp_init (K : PySem.W.Frag) (C CI : Addr) : Sp := fun vs H Q E => ∃ (x : Addr) (a b l h f : V) (dx : Addr), vs = [.ref x, a, b, l, h, f] ∧ H x = some (.ins C dx []) ∧ Kd K H a ∧ Kd K H b ∧ Kd K H l ∧ Kd K H h ∧ Kd K H f ∧
  (∀ p : Prf, a = .int p.puts → b = .int p.takes → l = .int p.low → h = .int p.high → f = .int p.fall → (isNatV a && isNatV b && isNatV h && isNatV f && isNonposV l) = true → ∀ H1, (∀ c o, c ≠ x → H c = some o → H1 c = some o) → H1 x = some (.ins C dx (pfl p)) → Q .non H1) ∧
  ((isNatV a && isNatV b && isNatV h && isNatV f && isNonposV l) = false → ∀ H1, Same H H1 → E (.ref CI) none H1)
theorem ok_Profile_init (T : Top K mg) : FnOk P w K mg base (L2.CX P w) 3 T.a_Profile_init T.d_Profile_init ["self", "puts", "takes", "low", "high", "fall"] (sp_init K T.x_Profile T.x_InvalidInteger) := by
  have G_is_int := ok_is_int (w := w) (base := base) T
  have G_is_natural := ok_is_natural (w := w) (base := base) T
  refine T.F_Profile_init.okX sc_Profile_init (fun vs H Q E h => ?_) (fun cdv A outer s H vs Q E hr h => ?_)
  · obtain ⟨x, a, b, l, hh, f, dx, rfl, _⟩ := h
    rfl
  · obtain ⟨x, a, b, l, hh, f, dx, rfl, hx, ka, kb, kl, kh, kf, q, qe⟩ := h
    refine ⟨_, (pss_cons (ps_if (pt_not (pt_val (pe_callB (cr_all rfl) (by rfl) T.z_all (by decide +kernel) (pa_cons (pe_lc (own := [("number", 6)]) (g := (gName 6)) (tt := tYes) (by rfl) sc_Profile_init.nd (pi_tup (pe_tup (pa_cons (pv 1) (pa_cons (pv 2) (pa_cons (pv 4) (pa_cons (pv 5) pa_nil)))))) (blkOk_by (own := [("number", 6)]) (N := ["self", "puts", "takes", "low", "high", "fall", "number"]) (sc := defScope s_Profile_init) (by decide +kernel)) (fun _ _ _ _ _ => pg_name (i := 6) sc_Profile_init.nd rfl (Or.inl rfl)) (fun _ _ _ _ _ => pts_nil) (fun _ _ _ _ _ => (pe_call G_is_natural (hr.mono (by first | decide | omega)) rfl T.m_is_natural T.F_is_natural.kp T.b_is_natural .nil pass0 (pa_cons (pv 6) pa_nil)))) pa_nil)))) (pss_one (ps_raise rfl (takes_of rfl rfl rfl rfl) (pmk_own PySem.F.excBase_ValueError T.q_InvalidInteger T.g_InvalidInteger T.k_InvalidInteger (raises_own T.b_InvalidInteger T.t_InvalidInteger) rfl))) pss_nil)
      (pss_cons (ps_if (PW.pt (pw_or (pt_not (pt_val (pe_call G_is_int (hr.mono (by first | decide | omega)) rfl T.m_is_int T.F_is_int.kp T.b_is_int .nil pass0 (pa_cons (pv 3) pa_nil)))) (pw_or1 (pt_cmpR op_gt (pv 3) pe_int (nomark _))))) (pss_one (ps_raise rfl (takes_of rfl rfl rfl rfl) (pmk_own PySem.F.excBase_ValueError T.q_InvalidInteger T.g_InvalidInteger T.k_InvalidInteger (raises_own T.b_InvalidInteger T.t_InvalidInteger) rfl))) pss_nil)
      (pss_cons (ps_fld (pv 0) (pv 1) rfl)
      (pss_cons (ps_fld (pv 0) (pv 2) rfl)
      (pss_cons (ps_fld (pv 0) (pv 3) rfl)
      (pss_cons (ps_fld (pv 0) (pv 4) rfl)
      (pss_one (ps_fld (pv 0) (pv 5) rfl)))))))), ?_⟩
    have hst : start ["self", "puts", "takes", "low", "high", "fall", "number"] [.ref x, a, b, l, hh, f] = [some (.ref x), some a, some b, some l, some hh, some f, none] := rfl
    rw [hst]
    walk_at "rd"
    refine lcT fun R kR => ?_
    walk_at "rd"
    refine ⟨by walk_at "sz", fun p hp => ?_⟩
    have s0 : Same H (upd H p (.tup [a, b, hh, f])) := same_new hp _
    refine kR p [a, b, hh, f] _ (SqT.of upd_same) fun D hD => ⟨fun i H' => i ≤ 4 ∧ Same (upd H p (.tup [a, b, hh, f])) H' ∧ H' D = some (.lst (([a, b, hh, f].take i).map (fun v => V.bl (isNatV v)))), ⟨by decide, same_new hD _, by rw [upd_same]; rfl⟩, fun i H' _ h => SqT.of (h.2.1 _ _ upd_same), ?_, ?_⟩
    · rintro i y H' hy ⟨hi4, s1, hD1⟩
      have ky : Kd K H' y := kd_mono (s0.trans s1) (by
        have hm : y ∈ [a, b, hh, f] := List.mem_of_getElem? hy
        simp only [List.mem_cons, List.not_mem_nil, or_false] at hm
        rcases hm with rfl | rfl | rfl | rfl <;> assumption)
      have hi : i < 4 := (List.getElem?_eq_some_iff.mp hy).1
      walk_at "wp"
      walk_at "rd"
      simp only [sp_has]
      walk_at "rd"
      refine ⟨ky, _, hD1, ?_, by omega, same_mut s1 hD, ?_⟩
      · rw [List.length_map, List.length_take]
        exact Nat.lt_of_le_of_lt (Nat.min_le_left _ _) (Nat.lt_of_le_of_lt (by omega : i ≤ 100000) (by decide))
      · rw [upd_same, List.take_add_one, hy, List.map_append]; rfl
    · rintro H' ⟨_, s1, hD1⟩
      have sH : Same H H' := s0.trans s1
      refine ⟨D, [isNatV a, isNatV b, isNatV hh, isNatV f], rfl, SqL.of hD1, _, rfl, ?_⟩
      have eb : ([isNatV a, isNatV b, isNatV hh, isNatV f].all id) = (isNatV a && isNatV b && isNatV hh && isNatV f) := by simp [Bool.and_assoc]
      rw [eb]
      cases hn : (isNatV a && isNatV b && isNatV hh && isNatV f) with
      | false =>
        rw [Bool.not_false, if_pos rfl]
        exact qe (by rw [hn]; rfl) H' sH
      | true =>
        rw [Bool.not_true, if_neg (by decide)]
        simp only [sp_is_int]
        walk_at "rd"
        refine ⟨kd_mono sH kl, ?_⟩
        cases l with
        | int l0 =>
          simp only [isIntV]
          walk_at "rd"
          by_cases hl : 0 < l0
          · rw [decide_eq_true hl, if_pos rfl]
            exact qe (by rw [hn]; simp only [isNonposV]; rw [decide_eq_false (by omega)]; rfl) H' sH
          · rw [decide_eq_false hl, if_neg (by decide)]
            simp only [Bool.and_eq_true] at hn
            obtain ⟨⟨⟨na, nb⟩, nh⟩, nf⟩ := hn
            cases a with
            | int a0 =>
              cases b with
              | int b0 =>
                cases hh with
                | int h0 =>
                  cases f with
                  | int f0 =>
                    have hx1 := sH _ _ hx
                    refine ⟨_, _, _, hx1, T.cl_Profile, T.n_Profile_puts, by decide, _, _, _, upd_same, T.cl_Profile, T.n_Profile_takes, Nat.lt_of_le_of_lt (putF_len _ _ _) (by decide), _, _, _, upd_same, T.cl_Profile, T.n_Profile_low, Nat.lt_of_le_of_lt (putF_len _ _ _) (Nat.lt_of_le_of_lt (Nat.succ_le_succ (putF_len _ _ _)) (by decide)),
                      _, _, _, upd_same, T.cl_Profile, T.n_Profile_high, Nat.lt_of_le_of_lt (putF_len _ _ _) (Nat.lt_of_le_of_lt (Nat.succ_le_succ (Nat.le_trans (putF_len _ _ _) (Nat.succ_le_succ (putF_len _ _ _)))) (by decide)),
                      _, _, _, upd_same, T.cl_Profile, T.n_Profile_fall, Nat.lt_of_le_of_lt (putF_len _ _ _) (Nat.lt_of_le_of_lt (Nat.succ_le_succ (Nat.le_trans (putF_len _ _ _) (Nat.succ_le_succ (Nat.le_trans (putF_len _ _ _) (Nat.succ_le_succ (putF_len _ _ _)))))) (by decide)), ?_⟩
                    refine q ⟨a0, b0, l0, h0, f0⟩ rfl rfl rfl rfl rfl (by rw [na, nb, nh, nf]; simp only [isNonposV]; rw [decide_eq_true (by omega)]; rfl) _ (fun c o hc e => ?_) ?_
                    · rw [upd_ne hc, upd_ne hc, upd_ne hc, upd_ne hc, upd_ne hc]; exact sH _ _ e
                    · rw [upd_same, pfl_put]
                  | _ => cases nf
                | _ => cases nh
              | _ => cases nb
            | _ => cases na
        | _ =>
          simp only [isIntV]
          walk_at "rd"
          exact qe (by simp [isNonposV]) H' sH
theorem mkp0 {K : PySem.W.Frag} {C CI : Addr} {H : Hp} {Q : Addr → Hp → Prop} {E : XK} {a b l h f : Int} (p : Prf) (ha : a = p.puts) (hb : b = p.takes) (hl : l = p.low) (hh : h = p.high) (hf : f = p.fall) (ok : 0 ≤ p.puts ∧ 0 ≤ p.takes ∧ p.low ≤ 0 ∧ 0 ≤ p.high ∧ 0 ≤ p.fall)
    (q : ∀ x H1, Same H H1 → H x = none → ProfAt C H1 x p → Q x H1) :
    ∀ x dx, H x = none → H dx = none → dx ≠ x → sp_init K C CI [.ref x, .int a, .int b, .int l, .int h, .int f] (upd (upd H dx (.own x)) x (.ins C dx [])) (fun v H2 => v = .non ∧ Q x H2) E := by
  intro x dx hx hd _
  subst ha; subst hb; subst hl; subst hh; subst hf
  refine ⟨x, _, _, _, _, _, dx, rfl, upd_same, .int _, .int _, .int _, .int _, .int _, fun p' e1 e2 e3 e4 e5 _ H1 s1 hx1 => ⟨rfl, ?_⟩, fun hn => ?_⟩
  · have e : p' = p := Prf.ext (by injection e1 with e; exact e.symm) (by injection e2 with e; exact e.symm) (by injection e3 with e; exact e.symm) (by injection e4 with e; exact e.symm) (by injection e5 with e; exact e.symm)
    subst e
    refine q x H1 (fun c o e => s1 c o (ne_of_none e hx) (made hx hd c o e)) hx ⟨dx, hx1⟩
  · obtain ⟨p0, t0, l0, h0, f0⟩ := ok
    simp only [isNatV, isNonposV, decide_eq_true p0, decide_eq_true t0, decide_eq_true h0, decide_eq_true f0, decide_eq_true l0] at hn
    cases hn
theorem mkp {K : PySem.W.Frag} {C CI : Addr} {H : Hp} {Q : Addr → Hp → Prop} {E : XK} {a b l h f : Int} (p : Prf) (ha : a = p.puts) (hb : b = p.takes) (hl : l = p.low) (hh : h = p.high) (hf : f = p.fall) (ok : p.Ok) (q : ∀ x H1, Same H H1 → H x = none → ProfAt C H1 x p → Q x H1) :
    ∀ x dx, H x = none → H dx = none → dx ≠ x → sp_init K C CI [.ref x, .int a, .int b, .int l, .int h, .int f] (upd (upd H dx (.own x)) x (.ins C dx [])) (fun v H2 => v = .non ∧ Q x H2) E :=
  mkp0 p ha hb hl hh hf ⟨ok.p0, ok.t0, ok.l0, ok.h0, by have := ok.f2; have := ok.l0; omega⟩ q
/-! ### the properties -/
def sp_prop (C : Addr) (g : Prf → Int) : Sp := fun vs H Q _ => ∃ (x : Addr) (p : Prf), vs = [.ref x] ∧ ProfAt C H x p ∧ Q (.int (g p)) H
theorem ok_Profile_puts (T : Top K mg) : FnOk P w K mg base CX0 1 T.a_Profile_puts T.d_Profile_puts ["self"] (sp_prop T.x_Profile Prf.puts) := by
  refine T.F_Profile_puts.ok sc_Profile_puts (fun vs H Q E h => ?_) (fun cdv A outer s H vs Q E hr h => ?_)
  · obtain ⟨x, p, rfl, _⟩ := h
    rfl
  · obtain ⟨x, p, rfl, ⟨dx, hx⟩, q⟩ := h
    refine ⟨_, (pss_one (ps_ret (pe_fld (pv 0) rfl))), ?_⟩
    have hst : start ["self"] [.ref x] = [some (.ref x)] := rfl
    rw [hst]
    walk_at "rd"
    exact ⟨_, _, _, hx, T.cl_Profile, T.n_Profile_puts, _, pfl_puts p, q⟩
theorem ok_Profile_takes (T : Top K mg) : FnOk P w K mg base CX0 1 T.a_Profile_takes T.d_Profile_takes ["self"] (sp_prop T.x_Profile Prf.takes) := by
  refine T.F_Profile_takes.ok sc_Profile_takes (fun vs H Q E h => ?_) (fun cdv A outer s H vs Q E hr h => ?_)
  · obtain ⟨x, p, rfl, _⟩ := h
    rfl
  · obtain ⟨x, p, rfl, ⟨dx, hx⟩, q⟩ := h
    refine ⟨_, (pss_one (ps_ret (pe_fld (pv 0) rfl))), ?_⟩
    have hst : start ["self"] [.ref x] = [some (.ref x)] := rfl
    rw [hst]
    walk_at "rd"
    exact ⟨_, _, _, hx, T.cl_Profile, T.n_Profile_takes, _, pfl_takes p, q⟩
theorem ok_Profile_low (T : Top K mg) : FnOk P w K mg base CX0 1 T.a_Profile_low T.d_Profile_low ["self"] (sp_prop T.x_Profile Prf.low) := by
  refine T.F_Profile_low.ok sc_Profile_low (fun vs H Q E h => ?_) (fun cdv A outer s H vs Q E hr h => ?_)
  · obtain ⟨x, p, rfl, _⟩ := h
    rfl
  · obtain ⟨x, p, rfl, ⟨dx, hx⟩, q⟩ := h
    refine ⟨_, (pss_one (ps_ret (pe_fld (pv 0) rfl))), ?_⟩
    have hst : start ["self"] [.ref x] = [some (.ref x)] := rfl
    rw [hst]
    walk_at "rd"
    exact ⟨_, _, _, hx, T.cl_Profile, T.n_Profile_low, _, pfl_low p, q⟩
theorem ok_Profile_high (T : Top K mg) : FnOk P w K mg base CX0 1 T.a_Profile_high T.d_Profile_high ["self"] (sp_prop T.x_Profile Prf.high) := by
  refine T.F_Profile_high.ok sc_Profile_high (fun vs H Q E h => ?_) (fun cdv A outer s H vs Q E hr h => ?_)
  · obtain ⟨x, p, rfl, _⟩ := h
    rfl
  · obtain ⟨x, p, rfl, ⟨dx, hx⟩, q⟩ := h
    refine ⟨_, (pss_one (ps_ret (pe_fld (pv 0) rfl))), ?_⟩
    have hst : start ["self"] [.ref x] = [some (.ref x)] := rfl
    rw [hst]
    walk_at "rd"
    exact ⟨_, _, _, hx, T.cl_Profile, T.n_Profile_high, _, pfl_high p, q⟩
theorem ok_Profile_fall (T : Top K mg) : FnOk P w K mg base CX0 1 T.a_Profile_fall T.d_Profile_fall ["self"] (sp_prop T.x_Profile Prf.fall) := by
  refine T.F_Profile_fall.ok sc_Profile_fall (fun vs H Q E h => ?_) (fun cdv A outer s H vs Q E hr h => ?_)
  · obtain ⟨x, p, rfl, _⟩ := h
    rfl
  · obtain ⟨x, p, rfl, ⟨dx, hx⟩, q⟩ := h
    refine ⟨_, (pss_one (ps_ret (pe_fld (pv 0) rfl))), ?_⟩
    have hst : start ["self"] [.ref x] = [some (.ref x)] := rfl
    rw [hst]
    walk_at "rd"
    exact ⟨_, _, _, hx, T.cl_Profile, T.n_Profile_fall, _, pfl_fall p, q⟩
theorem ok_Profile_offset (T : Top K mg) : FnOk P w K mg base CX0 1 T.a_Profile_offset T.d_Profile_offset ["self"] (sp_prop T.x_Profile Prf.off) := by
  refine T.F_Profile_offset.ok sc_Profile_offset (fun vs H Q E h => ?_) (fun cdv A outer s H vs Q E hr h => ?_)
  · obtain ⟨x, p, rfl, _⟩ := h
    rfl
  · obtain ⟨x, p, rfl, ⟨dx, hx⟩, q⟩ := h
    refine ⟨_, (pss_one (ps_ret (pe_op op_sub (pe_fld (pv 0) rfl) (pe_fld (pv 0) rfl)))), ?_⟩
    have hst : start ["self"] [.ref x] = [some (.ref x)] := rfl
    rw [hst]
    walk_at "rd"
    refine rd_fld hx T.cl_Profile T.n_Profile_puts (pfl_puts p) ?_
    refine rd_fld hx T.cl_Profile T.n_Profile_takes (pfl_takes p) ?_
    walk_at "rd"
    exact q
/-! ### + -/
def sp_padd (C : Addr) : Sp := fun vs H Q _ => ∃ (x y : Addr) (p q : Prf), vs = [.ref x, .ref y] ∧ ProfAt C H x p ∧ ProfAt C H y q ∧ p.Ok ∧ q.Ok ∧ ∀ z H1, Same H H1 → H z = none → ProfAt C H1 z (p.add q) → Q (.ref z) H1
theorem ok_Profile_add (T : Top K mg) : FnOk P w K mg base CX0 5 T.a_Profile_add T.d_Profile_add ["self", "other"] (sp_padd T.x_Profile) := by
  have G_Profile_init := ok_Profile_init (w := w) (base := base) T
  have G_Profile_offset := ok_Profile_offset (w := w) (base := base) T
  refine T.F_Profile_add.ok sc_Profile_add (fun vs H Q E h => ?_) (fun cdv A outer s H vs Q E hr h => ?_)
  · obtain ⟨x, y, p, q, rfl, _⟩ := h
    rfl
  · obtain ⟨x, y, p, q', rfl, ⟨dx, hx⟩, ⟨dy, hy⟩, hp, hq, q⟩ := h
    refine ⟨_, (pss_cons (ps_if (pt_not (pt_val (pe_callB call_isi (by rfl) T.z_isinstance (by decide +kernel) (pa_cons (pv 1) (pa_cons (pe_glob (v := .ref T.x_Profile) (by rfl) T.g_Profile rfl) pa_nil))))) (pss_one ps_never) pss_nil)
      (pss_cons (ps_set (i := 2) sc_Profile_add.nd rfl (Or.inl rfl) (pe_op op_add (pe_prop (pv 0) T.cl_Profile T.pr_Profile_offset G_Profile_offset (hr.mono (by first | decide | omega)) T.b_Profile_offset .nil pass0 rfl) (pe_fld (pv 1) rfl)))
      (pss_cons (ps_set (i := 3) sc_Profile_add.nd rfl (Or.inl rfl) (pe_op op_add (pe_prop (pv 0) T.cl_Profile T.pr_Profile_offset G_Profile_offset (hr.mono (by first | decide | omega)) T.b_Profile_offset .nil pass0 rfl) (pe_fld (pv 1) rfl)))
      (pss_one (ps_ret (pe_make T.mk_Profile G_Profile_init (hr.mono (by first | decide | omega)) (by rfl) T.g_Profile T.b_Profile_init .nil passN (pa_cons (pe_op op_add (pe_fld (pv 0) rfl) (pe_fld (pv 1) rfl)) (pa_cons (pe_op op_add (pe_fld (pv 0) rfl) (pe_fld (pv 1) rfl)) (pa_cons (pe_callB (call_min2 rfl) (by rfl) T.z_min (by decide +kernel) (pa_cons (pe_fld (pv 0) rfl) (pa_cons (pv 2) pa_nil))) (pa_cons (pe_callB (call_max2 rfl) (by rfl) T.z_max (by decide +kernel) (pa_cons (pe_fld (pv 0) rfl) (pa_cons (pv 3) pa_nil))) (pa_cons (pe_callB (call_max3I rfl) (by rfl) T.z_max (by decide +kernel) (pa_cons (pe_fld (pv 0) rfl) (pa_cons (pe_fld (pv 1) rfl) (pa_cons (pe_op op_sub (pe_fld (pv 0) rfl) (pv 2)) pa_nil)))) pa_nil))))))))))), ?_⟩
    have hst : start ["self", "other", "other_low", "other_high"] [.ref x, .ref y] = [some (.ref x), some (.ref y), none, none] := rfl
    rw [hst]
    walk_at "rd"
    refine isi_own (.base (.ins hy T.cl_Profile T.ca_Profile T.cg_Profile T.ct_Profile T.cm_Profile)) kit_self ?_
    walk_at "rd"
    refine ⟨⟨_, _, hx⟩, x, p, rfl, ⟨_, hx⟩, rd_fld hy T.cl_Profile T.n_Profile_low (pfl_low q') ?_⟩
    walk_at "rd"
    refine ⟨⟨_, _, hx⟩, x, p, rfl, ⟨_, hx⟩, rd_fld hy T.cl_Profile T.n_Profile_high (pfl_high q') ?_⟩
    walk_at "rd"
    refine rd_fld hx T.cl_Profile T.n_Profile_puts (pfl_puts p) (rd_fld hy T.cl_Profile T.n_Profile_puts (pfl_puts q') ?_)
    walk_at "rd"
    refine rd_fld hx T.cl_Profile T.n_Profile_takes (pfl_takes p) (rd_fld hy T.cl_Profile T.n_Profile_takes (pfl_takes q') ?_)
    walk_at "rd"
    refine rd_fld hx T.cl_Profile T.n_Profile_low (pfl_low p) ?_
    walk_at "rd"
    refine rd_fld hx T.cl_Profile T.n_Profile_high (pfl_high p) ?_
    walk_at "rd"
    refine rd_fld hx T.cl_Profile T.n_Profile_fall (pfl_fall p) (rd_fld hy T.cl_Profile T.n_Profile_fall (pfl_fall q') (rd_fld hx T.cl_Profile T.n_Profile_high (pfl_high p) ?_))
    walk_at "rd"
    refine mkp (p.add q') rfl rfl ?_ ?_ rfl (Prf.ok_add hp hq) q
    · simp only [Prf.add]; split <;> omega
    · simp only [Prf.add]; split <;> omega
/-! ### * -/
theorem ok_Profile_repeated_fall (T : Top K mg) : FnOk P w K mg base CX0 3 T.a_Profile_repeated_fall T.d_Profile_repeated_fall ["self", "last_start"] (fun vs H Q _ => ∃ (x : Addr) (p : Prf) (ls : Int), vs = [.ref x, .int ls] ∧ ProfAt T.x_Profile H x p ∧
    Q (.int (max (max p.fall ((p.high - p.low) - p.off)) ((p.high - p.low) - ls))) H) := by
  have G_Profile_offset := ok_Profile_offset (w := w) (base := base) T
  refine T.F_Profile_repeated_fall.ok sc_Profile_repeated_fall (fun vs H Q E h => ?_) (fun cdv A outer s H vs Q E hr h => ?_)
  · obtain ⟨x, p, ls, rfl, _⟩ := h
    rfl
  · obtain ⟨x, p, ls, rfl, ⟨dx, hx⟩, q⟩ := h
    refine ⟨_, (pss_cons (ps_set (i := 2) sc_Profile_repeated_fall.nd rfl (Or.inl rfl) (pe_op op_sub (pe_fld (pv 0) rfl) (pe_fld (pv 0) rfl)))
      (pss_one (ps_ret (pe_callB (call_max3I rfl) (by rfl) T.z_max (by decide +kernel) (pa_cons (pe_fld (pv 0) rfl) (pa_cons (pe_op op_sub (pv 2) (pe_prop (pv 0) T.cl_Profile T.pr_Profile_offset G_Profile_offset (hr.mono (by first | decide | omega)) T.b_Profile_offset .nil pass0 rfl)) (pa_cons (pe_op op_sub (pv 2) (pv 1)) pa_nil))))))), ?_⟩
    have hst : start ["self", "last_start", "span"] [.ref x, .int ls] = [some (.ref x), some (.int ls), none] := rfl
    rw [hst]
    walk_at "rd"
    refine rd_fld hx T.cl_Profile T.n_Profile_high (pfl_high p) (rd_fld hx T.cl_Profile T.n_Profile_low (pfl_low p) ?_)
    walk_at "rd"
    refine rd_fld hx T.cl_Profile T.n_Profile_fall (pfl_fall p) ?_
    walk_at "rd"
    refine ⟨⟨_, _, hx⟩, x, p, rfl, ⟨_, hx⟩, ?_⟩
    walk_at "rd"
    exact q
def sp_pmul (K : PySem.W.Frag) (C CI : Addr) : Sp := fun vs H Q E => ∃ (x : Addr) (v : V) (p : Prf), vs = [.ref x, v] ∧ ProfAt C H x p ∧ p.Ok ∧ p.bnd 2300 ∧ Kd K H v ∧ (isCountV v = false → E (.ref CI) none H) ∧
  (∀ n : Nat, v = .int n → n ≤ 10 ^ 30 → ∀ z H1, Same H H1 → H z = none → ProfAt C H1 z (p.mul n) → Q (.ref z) H1)
theorem ok_Profile_mul (T : Top K mg) : FnOk P w K mg base (L2.CX P w) 5 T.a_Profile_mul T.d_Profile_mul ["self", "other"] (sp_pmul K T.x_Profile T.x_InvalidInteger) := by
  have G_check_count := ok_check_count (w := w) (base := base) T
  have G_Profile_init := ok_Profile_init (w := w) (base := base) T
  have G_Profile_offset := ok_Profile_offset (w := w) (base := base) T
  have G_Profile_repeated_fall := ok_Profile_repeated_fall (w := w) (base := base) T
  refine T.F_Profile_mul.okX sc_Profile_mul (fun vs H Q E h => ?_) (fun cdv A outer s H vs Q E hr h => ?_)
  · obtain ⟨x, v, p, rfl, _⟩ := h
    rfl
  · obtain ⟨x, v, p, rfl, ⟨dx, hx⟩, hp, hb, kv, qe, q⟩ := h
    refine ⟨_, (pss_cons (ps_expr (pe_callS G_check_count (hr.mono (by first | decide | omega)) rfl T.m_check_count T.F_check_count.kp T.b_check_count (fun σ => passAt (takes_of rfl rfl rfl rfl) σ) (pa_cons (pv 1) pa_nil)))
      (pss_cons (ps_if (pt_cmpR op_eq (pv 1) pe_int (nomark _)) (pss_one (ps_ret (pe_make T.mk_Profile G_Profile_init (hr.mono (by first | decide | omega)) (by rfl) T.g_Profile T.b_Profile_init .nil (passAll (takes_of rfl rfl rfl rfl)) (pa_cons pe_int (pa_cons pe_int (pa_cons pe_int (pa_cons pe_int (pa_cons pe_int pa_nil)))))))) pss_nil)
      (pss_cons (ps_set (i := 2) sc_Profile_mul.nd rfl (Or.inl rfl) (pe_op op_mulW (pe_prop (pv 0) T.cl_Profile T.pr_Profile_offset G_Profile_offset (hr.mono (by first | decide | omega)) T.b_Profile_offset .nil pass0 rfl) (pe_op op_sub (pv 1) pe_int)))
      (pss_one (ps_ret (pe_make T.mk_Profile G_Profile_init (hr.mono (by first | decide | omega)) (by rfl) T.g_Profile T.b_Profile_init .nil (passAll (takes_of rfl rfl rfl rfl)) (pa_cons (pe_op op_mulW (pe_fld (pv 0) rfl) (pv 1)) (pa_cons (pe_op op_mulW (pe_fld (pv 0) rfl) (pv 1)) (pa_cons (pe_op op_add (pe_fld (pv 0) rfl) (pe_callB (call_min2 rfl) (by rfl) T.z_min (by decide +kernel) (pa_cons pe_int (pa_cons (pv 2) pa_nil)))) (pa_cons (pe_op op_add (pe_fld (pv 0) rfl) (pe_callB (call_max2 rfl) (by rfl) T.z_max (by decide +kernel) (pa_cons pe_int (pa_cons (pv 2) pa_nil)))) (pa_cons (pe_ifExp (pt_cmpR op_eq (pv 1) pe_int (nomark _)) (pe_fld (pv 0) rfl) (pe_meth (pv 0) T.cl_Profile T.me_Profile_repeated_fall G_Profile_repeated_fall (hr.mono (by first | decide | omega)) T.b_Profile_repeated_fall .nil pass0 (pa_cons (pv 2) pa_nil))) pa_nil))))))))))), ?_⟩
    have hst : start ["self", "other", "last_start"] [.ref x, v] = [some (.ref x), some v, none] := rfl
    rw [hst]
    walk_at "rd"
    simp only [tCallS, sp_check_count]
    walk_at "rd"
    refine ⟨kv, fun hc => qe hc, fun hc => ?_⟩
    obtain ⟨n, rfl, hn⟩ : ∃ n : Nat, v = .int n ∧ n ≤ 10 ^ 30 := by
      cases v with
      | int i =>
        simp only [isCountV, Bool.and_eq_true, decide_eq_true_eq] at hc
        exact ⟨i.toNat, by rw [Int.toNat_of_nonneg hc.1], by have := hc.2; omega⟩
      | _ => cases hc
    have q := q n rfl hn
    refine ⟨rfl, ?_⟩
    by_cases h0 : n = 0
    · subst h0
      rw [decide_eq_true (by rfl), if_pos rfl]
      exact mkp Prf.zero rfl rfl rfl rfl rfl Prf.ok_zero q
    · rw [decide_eq_false (by rw [V.int.injEq]; omega), if_neg (by decide)]
      have hw : ∀ a : Int, a.natAbs < 2 ^ 2301 → CMulW a (n : Int) ∧ CMulW a ((n : Int) - 1) := fun a ha =>
        ⟨wide_mul (a := 2301) (b := 100) ha (by rw [Int.natAbs_natCast]; exact Nat.lt_of_le_of_lt hn (by decide)) (by decide) (by decide) (by decide),
         wide_mul (a := 2301) (b := 100) ha (by have : ((n : Int) - 1).natAbs = n - 1 := by omega
                                                rw [this]; exact Nat.lt_of_le_of_lt (Nat.sub_le _ _) (Nat.lt_of_le_of_lt hn (by decide))) (by decide) (by decide) (by decide)⟩
      have up : ∀ a : Int, a.natAbs < 2 ^ 2300 → a.natAbs < 2 ^ 2301 := fun a h => Nat.lt_of_lt_of_le h (Nat.pow_le_pow_right (by decide) (by decide))
      refine ⟨⟨_, _, hx⟩, x, p, rfl, ⟨_, hx⟩, ?_⟩
      walk_at "rd"
      refine ⟨(hw _ (Prf.bnd_off hb)).2, rd_fld hx T.cl_Profile T.n_Profile_puts (pfl_puts p) ?_⟩
      walk_at "rd"
      refine ⟨(hw _ (up _ hb.1)).1, rd_fld hx T.cl_Profile T.n_Profile_takes (pfl_takes p) ?_⟩
      walk_at "rd"
      refine ⟨(hw _ (up _ hb.2.1)).1, rd_fld hx T.cl_Profile T.n_Profile_low (pfl_low p) ?_⟩
      walk_at "rd"
      refine rd_fld hx T.cl_Profile T.n_Profile_high (pfl_high p) ?_
      walk_at "rd"
      have hmul : p.mul (n : Int) = ⟨p.puts * n, p.takes * n, p.low + min 0 (p.off * ((n : Int) - 1)), p.high + max 0 (p.off * ((n : Int) - 1)), if (n : Int) = 1 then p.fall else max (max p.fall ((p.high - p.low) - p.off)) ((p.high - p.low) - p.off * ((n : Int) - 1))⟩ := by
        unfold Prf.mul; rw [if_neg (by omega)]
      have okm : (p.mul (n : Int)).Ok := Prf.ok_mul hp n
      rw [hmul] at q okm
      by_cases h1 : (n : Int) = 1
      · rw [decide_eq_true h1, if_pos rfl]
        refine rd_fld hx T.cl_Profile T.n_Profile_fall (pfl_fall p) ?_
        rw [if_pos h1] at q okm
        refine mkp ⟨p.puts * n, p.takes * n, p.low + min 0 (p.off * ((n : Int) - 1)), p.high + max 0 (p.off * ((n : Int) - 1)), p.fall⟩ rfl rfl ?_ ?_ rfl okm q
        · simp only; split <;> omega
        · simp only; split <;> omega
      · rw [decide_eq_false h1, if_neg (by decide)]
        rw [if_neg h1] at q okm
        refine ⟨_, _, hx, pfl_no p (by decide +kernel) (by decide +kernel) (by decide +kernel) (by decide +kernel) (by decide +kernel), p, ⟨_, hx⟩, ?_⟩
        refine mkp ⟨p.puts * n, p.takes * n, p.low + min 0 (p.off * ((n : Int) - 1)), p.high + max 0 (p.off * ((n : Int) - 1)), max (max p.fall ((p.high - p.low) - p.off)) ((p.high - p.low) - p.off * ((n : Int) - 1))⟩ rfl rfl ?_ ?_ rfl okm q
        · simp only; split <;> omega
        · simp only; split <;> omega
/-! ### == -/
def sp_peq (K : PySem.W.Frag) (C : Addr) : Sp := fun vs H Q _ => ∃ (x : Addr) (y : V) (p : Prf), vs = [.ref x, y] ∧ ProfAt C H x p ∧ ((∃ z q, y = .ref z ∧ ProfAt C H z q ∧ Q (.bl (decide (p = q))) H) ∨ (TyX K H y (.type "list") ∧ Q (.bl false) H))
theorem ok_Profile_eq (T : Top K mg) : FnOk P w K mg base CX0 1 T.a_Profile_eq T.d_Profile_eq ["self", "other"] (sp_peq K T.x_Profile) := by

  refine T.F_Profile_eq.ok sc_Profile_eq (fun vs H Q E h => ?_) (fun cdv A outer s H vs Q E hr h => ?_)
  · obtain ⟨x, y, p, rfl, _⟩ := h
    rfl
  · obtain ⟨x, y, p, rfl, ⟨dx, hx⟩, h⟩ := h
    refine ⟨_, (pss_one (ps_ret (pe_and (pe_callB call_isi (by rfl) T.z_isinstance (by decide +kernel) (pa_cons (pv 1) (pa_cons (pe_glob (v := .ref T.x_Profile) (by rfl) T.g_Profile rfl) pa_nil))) (pe_and (pe_cmpR op_eq (pe_fld (pv 0) rfl) (pe_fld (pv 1) rfl) (nomark _)) (pe_and (pe_cmpR op_eq (pe_fld (pv 0) rfl) (pe_fld (pv 1) rfl) (nomark _)) (pe_and (pe_cmpR op_eq (pe_fld (pv 0) rfl) (pe_fld (pv 1) rfl) (nomark _)) (pe_and (pe_cmpR op_eq (pe_fld (pv 0) rfl) (pe_fld (pv 1) rfl) (nomark _)) (pe_one (pe_cmpR op_eq (pe_fld (pv 0) rfl) (pe_fld (pv 1) rfl) (nomark _)))))))))), ?_⟩
    have hst : start ["self", "other"] [.ref x, y] = [some (.ref x), some y] := rfl
    rw [hst]
    walk_at "rd"
    rcases h with ⟨z, q', rfl, ⟨dz, hz⟩, q⟩ | ⟨ty, q⟩
    · refine isi_own (.base (.ins hz T.cl_Profile T.ca_Profile T.cg_Profile T.ct_Profile T.cm_Profile)) kit_self ?_
      walk_at "rd"
      refine rd_fld hx T.cl_Profile T.n_Profile_puts (pfl_puts p) (rd_fld hz T.cl_Profile T.n_Profile_puts (pfl_puts q') ?_)
      walk_at "rd"
      have no : ¬ p = q' → Q (.bl false) H := fun h => by rw [decide_eq_false h] at q; exact q
      by_cases e1 : p.puts = q'.puts
      · rw [decide_eq_true e1, if_pos rfl]
        refine rd_fld hx T.cl_Profile T.n_Profile_takes (pfl_takes p) (rd_fld hz T.cl_Profile T.n_Profile_takes (pfl_takes q') ?_)
        walk_at "rd"
        by_cases e2 : p.takes = q'.takes
        · rw [decide_eq_true e2, if_pos rfl]
          refine rd_fld hx T.cl_Profile T.n_Profile_low (pfl_low p) (rd_fld hz T.cl_Profile T.n_Profile_low (pfl_low q') ?_)
          walk_at "rd"
          by_cases e3 : p.low = q'.low
          · rw [decide_eq_true e3, if_pos rfl]
            refine rd_fld hx T.cl_Profile T.n_Profile_high (pfl_high p) (rd_fld hz T.cl_Profile T.n_Profile_high (pfl_high q') ?_)
            walk_at "rd"
            by_cases e4 : p.high = q'.high
            · rw [decide_eq_true e4, if_pos rfl]
              refine rd_fld hx T.cl_Profile T.n_Profile_fall (pfl_fall p) (rd_fld hz T.cl_Profile T.n_Profile_fall (pfl_fall q') ?_)
              walk_at "rd"
              have e : decide (p.fall = q'.fall) = decide (p = q') := decide_eq_decide.mpr ⟨fun e5 => Prf.ext e1 e2 e3 e4 e5, fun h => by rw [h]⟩
              rw [e]
              exact q
            · rw [decide_eq_false e4, if_neg (by decide)]
              exact no fun h => e4 (by rw [h])
          · rw [decide_eq_false e3, if_neg (by decide)]
            exact no fun h => e3 (by rw [h])
        · rw [decide_eq_false e2, if_neg (by decide)]
          exact no fun h => e2 (by rw [h])
      · rw [decide_eq_false e1, if_neg (by decide)]
        exact no fun h => e1 (by rw [h])
    · refine isi_own ty (kit_not T.cs_Profile T.cy_Profile T.su_Profile_list) ?_
      walk_at "rd"
      exact q
/-! ### of a sequence -/
theorem ok_Profile_of_sequence (T : Top K mg) : FnOk P w K mg base CX0 5 T.a_Profile_of_sequence T.d_Profile_of_sequence ["cls", "sequence"] (fun vs H Q _ => ∃ z : Str, vs = [.ref T.x_Profile, .str z] ∧ z.length ≤ 100000 ∧
    ∀ x H1, Same H H1 → H x = none → ProfAt T.x_Profile H1 x (prof (tl z)) → Q (.ref x) H1) := by
  have G_Profile_init := ok_Profile_init (w := w) (base := base) T
  refine T.F_Profile_of_sequence.ok sc_Profile_of_sequence (fun vs H Q E h => ?_) (fun cdv A outer s H vs Q E hr h => ?_)
  · obtain ⟨z, rfl, _⟩ := h
    rfl
  · obtain ⟨z, rfl, hz, q⟩ := h
    refine ⟨_, (pss_cons (ps_asg4 pe_int (pg_name (i := 2) sc_Profile_of_sequence.nd rfl (Or.inl rfl)) (pg_name (i := 3) sc_Profile_of_sequence.nd rfl (Or.inl rfl)) (pg_name (i := 4) sc_Profile_of_sequence.nd rfl (Or.inl rfl)) (pg_name (i := 5) sc_Profile_of_sequence.nd rfl (Or.inl rfl)))
      (pss_cons (ps_for PassesOwn.never rfl (pi_str (pv 1)) (pg_name (i := 6) sc_Profile_of_sequence.nd rfl (Or.inl rfl)) (pss_cons (ps_aug (i := 2) sc_Profile_of_sequence.nd rfl (Or.inl rfl) (pe_ifExp (pt_cmpR op_eq (pv 6) (pe_glob (v := .str "-") (by rfl) T.c_TAKE ⟨_, rfl⟩) (nomark _)) (pe_un un_neg pe_int) pe_int) ip_add)
      (pss_cons (ps_set (i := 3) sc_Profile_of_sequence.nd rfl (Or.inl rfl) (pe_callB (call_min2 rfl) (by rfl) T.z_min (by decide +kernel) (pa_cons (pv 3) (pa_cons (pv 2) pa_nil))))
      (pss_cons (ps_set (i := 4) sc_Profile_of_sequence.nd rfl (Or.inl rfl) (pe_callB (call_max2 rfl) (by rfl) T.z_max (by decide +kernel) (pa_cons (pv 4) (pa_cons (pv 2) pa_nil))))
      (pss_one (ps_set (i := 5) sc_Profile_of_sequence.nd rfl (Or.inl rfl) (pe_callB (call_max2 rfl) (by rfl) T.z_max (by decide +kernel) (pa_cons (pv 5) (pa_cons (pe_op op_sub (pv 4) (pv 2)) pa_nil)))))))))
      (pss_cons (ps_set (i := 7) sc_Profile_of_sequence.nd rfl (Or.inl rfl) (pe_bm PySem.F.plainAttrs_str PySem.F.slot_str_count PySem.F.type_str_count mt_count (pv 1) (pa_cons (pe_glob (v := .str "-") (by rfl) T.c_TAKE ⟨_, rfl⟩) pa_nil)))
      (pss_one (ps_ret (pe_makeL (i := 0) T.mk_Profile G_Profile_init (hr.mono (by first | decide | omega)) rfl (Or.inl rfl) T.b_Profile_init .nil passN (pa_cons (pe_op op_sub (pe_callB call_len_str (by rfl) T.z_len (by decide +kernel) (pa_cons (pv 1) pa_nil)) (pv 7)) (pa_cons (pv 7) (pa_cons (pv 3) (pa_cons (pv 4) (pa_cons (pv 5) pa_nil))))))))))), ?_⟩
    have hst : start ["cls", "sequence", "offset", "low", "high", "fall", "step", "takes"] [.ref T.x_Profile, .str z] = [some (.ref T.x_Profile), some (.str z), none, none, none, none, none, none] := rfl
    rw [hst]
    walk_at "rd"
    refine forS fun R kR => ?_
    walk_at "rd"
    have e0 : Prf.zero = prof ((tl z).take 0) := rfl
    refine kR z (fun i σ H' => H' = H ∧ i ≤ (tl z).length ∧ ∃ x6 : Option V, σ = [some (.ref T.x_Profile), some (.str z), some (.int (prof ((tl z).take i)).off), some (.int (prof ((tl z).take i)).low), some (.int (prof ((tl z).take i)).high), some (.int (prof ((tl z).take i)).fall), x6, none]) H ⟨rfl, Nat.zero_le _, _, rfl⟩ ?_ ?_
    · rintro i c σ H' hc ⟨rfl, hi, x6, rfl⟩
      have hlt : i < (tl z).length := (List.getElem?_eq_some_iff.mp hc).1
      have ep := prof_take (tl z) i c hc
      rw [ep]
      generalize prof ((tl z).take i) = p
      walk_at "rd"
      have ec : decide ((⟨#[c]⟩ : Str) = Str.ofString "-") = decide (c = 45) := decide_eq_decide.mpr (sg_eq c "-" 45 (by decide +kernel))
      rw [ec]
      have key : ∀ d : Int, (if c = 45 then (-1 : Int) else 1) = d → (p.pstp c).off = p.off + d ∧ (p.pstp c).low = min p.low (p.off + d) ∧ (p.pstp c).high = max p.high (p.off + d) ∧ (p.pstp c).fall = max p.fall (max p.high (p.off + d) - (p.off + d)) := fun d hd => by
        subst hd
        refine ⟨?_, rfl, rfl, rfl⟩
        simp only [Prf.pstp, Prf.off]; split <;> omega
      by_cases h : c = 45
      · obtain ⟨k1, k2, k3, k4⟩ := key (-1) (if_pos h)
        rw [decide_eq_true h, if_pos rfl, k1, k2, k3, k4]
        refine ⟨_, _, rfl, rfl, _, rfl, _, rfl, _, rfl, rfl, by omega, rfl, ?_, ?_, ?_, _, rfl⟩
        · dsimp only; split <;> omega
        · dsimp only; split <;> omega
        · dsimp only; split <;> split <;> omega
      · obtain ⟨k1, k2, k3, k4⟩ := key 1 (if_neg h)
        rw [decide_eq_false h, if_neg (by decide), k1, k2, k3, k4]
        refine ⟨_, _, rfl, rfl, _, rfl, _, rfl, _, rfl, rfl, by omega, rfl, ?_, ?_, ?_, _, rfl⟩
        · dsimp only; split <;> omega
        · dsimp only; split <;> omega
        · dsimp only; split <;> split <;> omega
    · rintro σ H' ⟨rfl, _, x6, rfl⟩
      rw [List.take_length]
      walk_at "rd"
      refine ⟨sz_of hz, ?_⟩
      have ecnt : Txt.count z (Str.ofString "-") = ((tl z).count 45 : Nat) := count_one z
      obtain ⟨ht, hp⟩ := prof_takes (tl z)
      refine mkp (prof (tl z)) ?_ ?_ rfl rfl rfl (prof_ok _) q
      · rw [ecnt, hp, tl_len]
      · rw [ecnt, ht]
/-! ### of parts -/
def sp_pof (C : Addr) (n : Nat) : Sp := fun vs H Q _ => ∃ (p : Addr) (ps : Parts), vs = [.ref C, .ref p] ∧ PartsAt H p ps ∧ ps.dep < n ∧ n ≤ 21 ∧ ps.ok ∧ ps.vol ≤ 100000 ∧ ∀ x H1, Same H H1 → H x = none → ProfAt C H1 x (prof ps.den) → Q (.ref x) H1
theorem bnd_den {ps : Parts} (h : ps.ok) (hv : ps.vol ≤ 100000) (hd : ps.dep ≤ 20) : (prof ps.den).bnd 2300 := by
  have hl := den_lt h hv hd
  obtain ⟨h1, h2, h3, h4, h5⟩ := prof_bound ps.den _ (Nat.le_refl _)
  have ok := prof_ok ps.den
  have p0 := ok.p0; have t0 := ok.t0; have l0 := ok.l0; have h0 := ok.h0; have f2 := ok.f2
  have big : 2 * ps.den.length < 2 ^ 2300 := by
    refine Nat.lt_of_lt_of_le (Nat.mul_lt_mul_of_pos_left hl (by decide)) ?_
    rw [← Nat.pow_succ']
    exact Nat.pow_le_pow_right (by decide) (by decide)
  generalize 2 ^ 2300 = N at *
  generalize ps.den.length = L at *
  refine ⟨?_, ?_, ?_, ?_, ?_⟩ <;> omega
theorem rec_pof (T : Top K mg) : ∀ n : Nat, FnOk P w K mg base CX0 (n + 12) T.a_Profile_of_parts T.d_Profile_of_parts ["cls", "parts"] (sp_pof T.x_Profile n)
  | 0 => by
    refine T.F_Profile_of_parts.ok sc_Profile_of_parts (fun vs H Q E h => ?_) (fun cdv A outer s H vs Q E hr h => ?_)
    · obtain ⟨p, ps, rfl, _⟩ := h
      rfl
    · obtain ⟨p, ps, rfl, _, h, _⟩ := h
      exact absurd h (Nat.not_lt_zero _)
  | n + 1 => by
    have G_Profile_of_parts := rec_pof T n
    have G_Profile_init := ok_Profile_init (w := w) (base := base) T
    have G_Profile_of_sequence := ok_Profile_of_sequence (w := w) (base := base) T
    have G_Profile_add := ok_Profile_add (w := w) (base := base) T
    have G_Profile_mul := ok_Profile_mul (w := w) (base := base) T
    refine T.F_Profile_of_parts.ok sc_Profile_of_parts (fun vs H Q E h => ?_) (fun cdv A outer s H vs Q E hr h => ?_)
    · obtain ⟨p, ps, rfl, _⟩ := h
      rfl
    · obtain ⟨p, ps, rfl, ⟨xs, hp, hxs, hvs⟩, hd, hn, hok, hvol, q⟩ := h
      refine ⟨_, (pss_cons (ps_set (i := 2) sc_Profile_of_parts.nd rfl (Or.inl rfl) (pe_makeL (i := 0) T.mk_Profile G_Profile_init (hr.mono (by first | decide | omega)) rfl (Or.inl rfl) T.b_Profile_init .nil passN (pa_cons pe_int (pa_cons pe_int (pa_cons pe_int (pa_cons pe_int (pa_cons pe_int pa_nil)))))))
      (pss_cons (ps_for PassesOwn.never rfl (pi_list (pv 1)) (pg_name (i := 3) sc_Profile_of_parts.nd rfl (Or.inl rfl)) (pss_one (ps_if (pt_val (pe_callB call_isi (by rfl) T.z_isinstance (by decide +kernel) (pa_cons (pv 3) (pa_cons (pe_bltn (v := .ty "str") (by rfl) T.z_str (by decide +kernel) rfl) pa_nil)))) (pss_one (ps_set (i := 2) sc_Profile_of_parts.nd rfl (Or.inl rfl) (pe_op (op_own G_Profile_add (hr.mono (by first | decide | omega)) T.b_Profile_add pass0 T.sf_Profile T.ba_Profile_add T.bi_Profile_add) (pv 2) (ClX.pe_cmeth (pv 0) T.rd_Profile T.cm_Profile_of_sequence (FnOk.raw G_Profile_of_sequence T.b_Profile_of_sequence .nil) (hr.mono (by first | decide | omega)) pass0 (pa_cons (pv 3) pa_nil))))) (pss_cons (ps_asg (pv 3) (pg_tup (by rfl) (pgs_cons (pg_name (i := 4) sc_Profile_of_parts.nd rfl (Or.inl rfl)) (pgs_cons (pg_name (i := 5) sc_Profile_of_parts.nd rfl (Or.inl rfl)) pgs_nil))))
      (pss_one (ps_set (i := 2) sc_Profile_of_parts.nd rfl (Or.inl rfl) (pe_op (op_own G_Profile_add (hr.mono (by first | decide | omega)) T.b_Profile_add pass0 T.sf_Profile T.ba_Profile_add T.bi_Profile_add) (pv 2) (pe_op (op_ownT G_Profile_mul (hr.mono (by first | decide | omega)) T.b_Profile_mul passN T.sf_Profile T.ba_Profile_mul T.bi_Profile_mul T.br_Profile_mul T.rt_Profile_mul) (ClX.pe_cmeth (pv 0) T.rd_Profile T.cm_Profile_of_parts (FnOk.raw G_Profile_of_parts T.b_Profile_of_parts .nil) (hr.mono (by first | decide | omega)) pass0 (pa_cons (pv 4) pa_nil)) (pv 5)))))))))
      (pss_one (ps_ret (pv 2))))), ?_⟩
      have hst : start ["cls", "parts", "total", "part", "body", "count"] [.ref T.x_Profile, .ref p] = [some (.ref T.x_Profile), some (.ref p), none, none, none, none] := rfl
      rw [hst]
      walk_at "rd"
      refine mkp Prf.zero rfl rfl rfl rfl rfl Prf.ok_zero fun x0 H0 s0 hx0 hp0 => ?_
      refine forL fun R kR => ?_
      walk_at "rd"
      refine kR p xs (fun i σ H1 => Same H H1 ∧ ∃ (tot : Addr) (d : List Nat) (rest : Parts) (x3 x4 x5 : Option V), σ = [some (.ref T.x_Profile), some (.ref p), some (.ref tot), x3, x4, x5] ∧ ProfAt T.x_Profile H1 tot (prof d) ∧ H tot = none ∧ PVs H (xs.drop i) rest ∧ ps.den = d ++ rest.den ∧ rest.dep < n + 1 ∧ rest.ok ∧ rest.vol ≤ 100000)
        H0 (SqL.of (s0 _ _ hp)) ⟨s0, x0, [], ps, _, _, _, rfl, hp0, hx0, hvs, rfl, hd, hok, hvol⟩ (fun i σ H1 _ h => SqL.of (h.1 _ _ hp)) ?_ ?_
      · rintro i x σ H1 hx ⟨s1, tot, d, rest, x3, x4, x5, rfl, ⟨dt, htot⟩, htn, pv', hden, hdr, hokr, hvr⟩
        obtain ⟨hi, ex⟩ := List.getElem?_eq_some_iff.mp hx
        rw [List.drop_eq_getElem_cons hi, ex] at pv'
        walk_at "rd"
        cases pv' with
        | seq pr =>
          rename_i z0 r0
          rw [Parts.vol] at hvr
          rw [Parts.den] at hden
          rw [Parts.dep] at hdr
          have hz0 : (tl z0).length = z0.length := tl_len z0
          refine isi_str (.str _ (by omega)) ?_
          simp only [tStr]
          walk_at "rd"
          refine ⟨by omega, fun y H2 s2 hy2 ⟨dy, hpy⟩ => ?_⟩
          refine ⟨_, _, _, _, _, _, rfl, rfl, s2 _ _ htot, hpy, tot, y, prof d, prof (tl z0), rfl, ⟨_, s2 _ _ htot⟩, ⟨_, hpy⟩, prof_ok _, prof_ok _, fun z H3 s3 hz3 hpz => ?_⟩
          refine ⟨fun b o e => s3 _ _ (s2 _ _ (s1 _ _ e)), z, rfl, ⟨_, rfl⟩, ⟨_, rfl⟩, ⟨_, rfl⟩, d ++ tl z0, by rw [prof_app]; exact hpz, (s1.trans s2).free hz3, r0, pr, by rw [hden, List.append_assoc], hdr, hokr.2.2, by omega⟩
        | rep h1 h2 h3 hb pr =>
          rename_i q0 p0 n0 vb b0 r0
          rw [Parts.vol] at hvr
          rw [Parts.den] at hden
          rw [Parts.dep] at hdr
          refine isi_str (kd_tup (s1 _ _ h1)) ?_
          simp only [tStr]
          walk_at "rd"
          refine ⟨[.ref p0, .int n0], SqT.of (s1 _ _ h1), rfl, ?_⟩
          simp only [gCons, gNil]
          walk_at "rd"
          simp only [sp_pof]
          refine ⟨p0, b0, rfl, ⟨vb, s1 _ _ h2, h3, hb.mono s1⟩, by omega, by omega, hokr.1, by omega, fun y H2 s2 hy2 ⟨dy, hpy⟩ => ?_⟩
          refine ⟨_, _, _, "int", rfl, hpy, rfl, List.mem_cons_self, y, .int n0, prof b0.den, rfl, ⟨_, hpy⟩, prof_ok _, bnd_den hokr.1 (by omega) (by omega), .int _, fun hc => ?_, fun n1 e1 hn1 m H3 s3 hm3 hpm => ?_⟩
          · simp only [isCountV] at hc
            rw [decide_eq_true (by omega : (0 : Int) ≤ (n0 : Int)), decide_eq_true (by have := hokr.2.1; omega : (n0 : Int) ≤ 10 ^ 30)] at hc
            cases hc
          · have e2 : n0 = n1 := by injection e1 with e1; omega
            subst e2
            have s23 : Same H1 H3 := s2.trans s3
            obtain ⟨dm, hpm'⟩ := id hpm
            refine ⟨_, _, _, _, _, _, rfl, rfl, s23 _ _ htot, hpm', tot, m, prof d, (prof b0.den).mul n0, rfl, ⟨_, s23 _ _ htot⟩, hpm, prof_ok _, Prf.ok_mul (prof_ok _) _, fun z H4 s4 hz4 hpz => ?_⟩
            refine ⟨fun b o e => s4 _ _ (s23 _ _ (s1 _ _ e)), z, rfl, ⟨_, rfl⟩, ⟨_, rfl⟩, ⟨_, rfl⟩, d ++ (List.replicate n0 b0.den).flatten, by rw [prof_app, prof_rep]; exact hpz, (s1.trans s23).free hz4, r0, pr, by rw [hden, List.append_assoc], by omega, hokr.2.2, by omega⟩
      · rintro σ H1 ⟨s1, tot, d, rest, x3, x4, x5, rfl, hptot, htn, pv', hden, hdr, hokr, hvr⟩
        rw [List.drop_length] at pv'
        cases pv'
        walk_at "rd"
        rw [show ps.den = d from by rw [hden]; exact List.append_nil _] at q
        exact q tot H1 s1 htn hptot
theorem ok_Profile_of_parts (T : Top K mg) : FnOk P w K mg base CX0 33 T.a_Profile_of_parts T.d_Profile_of_parts ["cls", "parts"] (sp_pof T.x_Profile 21) := rec_pof T 21
/-! ### Profile.of -/
def sp_pofx (K : PySem.W.Frag) (C CI : Addr) : Sp := fun vs H Q E => ∃ x, vs = [.ref C, x] ∧ Kd K H x ∧ (progV x = none → ∀ H1, Same H H1 → E (.ref CI) none H1) ∧
  (∀ ps, progV x = some ps → ∀ y H1, Same H H1 → H y = none → ProfAt C H1 y (prof ps.den) → Q (.ref y) H1)
theorem ok_Profile_of (T : Top K mg) : FnOk P w K mg base (L2.CX P w) 34 T.a_Profile_of T.d_Profile_of ["cls", "program"] (sp_pofx K T.x_Profile T.x_InvalidProgram) := by
  have G_Profile_of_parts := ok_Profile_of_parts (w := w) (base := base) T
  have G_parts_of := ok_parts_of (w := w) (base := base) T
  refine T.F_Profile_of.okX sc_Profile_of (fun vs H Q E h => ?_) (fun cdv A outer s H vs Q E hr h => ?_)
  · obtain ⟨x, rfl, _⟩ := h
    rfl
  · obtain ⟨x, rfl, kx, qe, q⟩ := h
    refine ⟨_, (pss_one (ps_ret (ClX.pe_cmeth (pv 0) T.rd_Profile T.cm_Profile_of_parts (FnOk.raw G_Profile_of_parts T.b_Profile_of_parts .nil) (hr.mono (by first | decide | omega)) pass0 (pa_cons (pe_callS G_parts_of (hr.mono (by first | decide | omega)) rfl T.m_parts_of T.F_parts_of.kp T.b_parts_of (fun σ => passAt (takes_of rfl rfl rfl rfl) σ) (pa_cons (pv 1) pa_nil)) pa_nil)))), ?_⟩
    have hst : start ["cls", "program"] [.ref T.x_Profile, x] = [some (.ref T.x_Profile), some x] := rfl
    rw [hst]
    walk_at "rd"
    simp only [tCallS, sp_parts_of]
    walk_at "rd"
    refine ⟨kx, fun e H1 s1 => qe e H1 s1, fun ps e p H1 s1 hn hp => ?_⟩
    obtain ⟨t, rfl⟩ : ∃ t, x = .str t := by
      cases x with
      | str t => exact ⟨t, rfl⟩
      | _ => cases e
    have hdk := rpt_deep (t := tl t) e
    have hvl := rpt_vol (t := tl t) e
    have ht : t.length ≤ 100000 := by cases kx; assumption
    have htl := tl_len t
    exact ⟨p, ps, rfl, hp, by omega, by decide, hdk.2, by omega, fun y H2 s2 hy hpy => q ps e y H2 (s1.trans s2) (s1.free hy) hpy⟩
theorem ownEq_prof (T : Top K mg) {H' : Hp} {a b : Addr} {p q : Prf} {Q' : VK} {neg : Bool} {E : XK} (h1 : ProfAt T.x_Profile H' a p) (h2 : ProfAt T.x_Profile H' b q) (hq : Q' (.bl (decide (p = q) != neg)) H') : rOwnEq K T.x_Profile (sp_peq K T.x_Profile) E neg (.ref a) (.ref b) H' Q' := by
  obtain ⟨dx, h1⟩ := h1
  obtain ⟨dy, h2⟩ := h2
  exact ⟨a, dx, _, rfl, h1, ⟨_, .base (.ins h2 T.cl_Profile T.ca_Profile T.cg_Profile T.ct_Profile T.cm_Profile), notf_self⟩, a, .ref b, p, rfl, ⟨_, h1⟩, .inl ⟨b, q, rfl, ⟨_, h2⟩, _, rfl, hq⟩⟩
theorem ownEq_list (T : Top K mg) {H' : Hp} {a b : Addr} {p : Prf} {xs : List V} {Q' : VK} {neg : Bool} {E : XK} (h1 : ProfAt T.x_Profile H' a p) (h2 : H' b = some (.lst xs)) (hq : Q' (.bl (false != neg)) H') : rOwnEq K T.x_Profile (sp_peq K T.x_Profile) E neg (.ref a) (.ref b) H' Q' := by
  obtain ⟨dx, h1⟩ := h1
  exact ⟨a, dx, _, rfl, h1, ⟨_, .base (.lst h2), notf_ty T.su_Profile_list⟩, a, .ref b, p, rfl, ⟨_, h1⟩, .inr ⟨.base (.lst h2), _, rfl, hq⟩⟩

theorem emod_lt {a b : Int} (h : 0 < b) : 0 ≤ a % b ∧ a % b < b := ⟨Int.emod_nonneg _ (by omega), Int.emod_lt_of_pos _ h⟩
theorem ok__law_draw (T : Top K mg) : FnOk P w K mg base CX0 1 T.a__law_draw T.d__law_draw ["_law_draws_here", "_law_upto"] sp_draw := by

  refine T.F__law_draw.ok sc__law_draw (fun vs H Q E h => ?_) (fun cdv A outer s H vs Q E hr h => ?_)
  · obtain ⟨p, d, u, rfl, _⟩ := h
    rfl
  · obtain ⟨p, ⟨a, b⟩, u, rfl, hp, ⟨ha, hb, hb2⟩, hu0, hu1, q⟩ := h
    refine ⟨_, (pss_cons (ps_if (pt_cmpR op_gt (pe_ix ix_list (pv 0) pe_int (fun _ _ => rfl)) pe_int (nomark _)) (pss_cons (ps_set (i := 2) sc__law_draw.nd rfl (Or.inl rfl) (pe_op op_mod (pe_ix ix_list (pv 0) pe_int (fun _ _ => rfl)) (pv 1)))
      (pss_cons (ps_asg (pe_op op_fdiv (pe_ix ix_list (pv 0) pe_int (fun _ _ => rfl)) (pv 1)) (pg_sub (pv 0) pe_int set_list))
      (pss_one (ps_ret (pv 2))))) pss_nil)
      (pss_cons (ps_asg (pe_op op_mod (pe_op op_add (pe_op op_mul (pe_ix ix_list (pv 0) pe_int (fun _ _ => rfl)) pe_int) pe_int) pe_int) (pg_sub (pv 0) pe_int set_list))
      (pss_one (ps_ret (pe_op op_mod (pe_op op_fdiv (pe_op op_mod (pe_op op_mul (pe_ix ix_list (pv 0) pe_int (fun _ _ => rfl)) (pe_ix ix_list (pv 0) pe_int (fun _ _ => rfl))) pe_int) pe_int) (pv 1)))))), ?_⟩
    have hst : start ["_law_draws_here", "_law_upto", "_law_digit"] [.ref p, .int u] = [some (.ref p), some (.int u), none] := rfl
    rw [hst]
    walk_at "rd"
    simp only at ha hb hb2
    have h0 : SqL K H p [.int a, .int b] := SqL.of hp
    refine ix_at h0 (by decide) rfl ?_
    walk_at "rd"
    refine ite2 (fun c => ?_) (fun c => ?_)
    · have c' : 0 < a := of_decide_eq_true c
      refine ix_at h0 (by decide) rfl ?_
      walk_at "rd"
      refine ⟨hu0, ix_at h0 (by decide) rfl ?_⟩
      walk_at "rd"
      refine ⟨⟨hu0, by omega⟩, set_at (xs := [.int a, .int b]) hp (by decide) (by simp) ?_⟩
      walk_at "rd"
      have e1 := emod_lt (a := a) hu0
      exact q (a % u) (a / u, b) _ e1.1 e1.2 ⟨Int.ediv_nonneg ha (by omega), hb, hb2⟩ upd_same (fun q o hq e => by rw [upd_ne hq]; exact e)
    · refine ix_at h0 (by decide) rfl ?_
      walk_at "rd"
      have e1 := emod_lt (a := b * 48271 + 11) (b := 2147483647) (by decide)
      generalize hy : (b * 48271 + 11) % 2147483647 = y at e1 ⊢
      have h2 : SqL K (upd H p (.lst [.int a, .int y])) p [.int a, .int y] := SqL.of upd_same
      refine ⟨.inr (by decide), by decide, set_at (xs := [.int a, .int b]) hp (by decide) (by simp) ?_⟩
      walk_at "rd"
      refine ix_at h2 (by decide) rfl (ix_at h2 (by decide) rfl ?_)
      walk_at "rd"
      refine ⟨.inl (by omega), by decide, ⟨by decide, by decide⟩, hu0, ?_⟩
      have e2 := emod_lt (a := y * y % 2147483629 / 64) hu0
      exact q _ (a, y) _ e2.1 e2.2 ⟨ha, e1.1, e1.2⟩ upd_same (fun q o hq e => by rw [upd_ne hq]; exact e)
theorem mem_map_int {ns : List Int} {i : Nat} (h : i < ns.length) : (ns.map V.int)[i]? = some (.int ns[i]) := by
  rw [List.getElem?_map, List.getElem?_eq_getElem h] <;> rfl
theorem ok__law_draws (T : Top K mg) : FnOk P w K mg base CX0 1 T.a__law_draws T.d__law_draws ["_law_script", "_law_k"] (sp_draws K) := by

  refine T.F__law_draws.ok sc__law_draws (fun vs H Q E h => ?_) (fun cdv A outer s H vs Q E hr h => ?_)
  · obtain ⟨a, ns, k, rfl, _⟩ := h
    rfl
  · obtain ⟨a, ns, k, rfl, hS, hl, hk0, hk1, q⟩ := h
    refine ⟨_, (pss_cons (ps_set (i := 2) sc__law_draws.nd rfl (Or.inl rfl) pe_int)
      (pss_cons (ps_if (pt_cmpR (op_neD hr.units) (pv 0) (pe_lst pa_nil) (nomark _)) (pss_one (ps_set (i := 2) sc__law_draws.nd rfl (Or.inl rfl) (pe_ix ix_list (pv 0) (pe_op op_mod (pv 1) (pe_callB call_len_seq (by rfl) T.z_len (by decide +kernel) (pa_cons (pv 0) pa_nil))) (fun _ _ => rfl)))) pss_nil)
      (pss_cons (ps_if (pt_cmpR op_ge (pv 1) (pe_callB call_len_seq (by rfl) T.z_len (by decide +kernel) (pa_cons (pv 0) pa_nil)) (nomark _)) (pss_one (ps_set (i := 2) sc__law_draws.nd rfl (Or.inl rfl) (pe_op op_mod (pv 2) pe_int))) pss_nil)
      (pss_cons (ps_set (i := 3) sc__law_draws.nd rfl (Or.inl rfl) (pe_op op_mod (pe_op op_mul (pe_op op_add (pe_op op_add (pe_op op_mod (pv 2) pe_int) (pe_op op_mul pe_int (pv 1))) pe_int) pe_int) pe_int))
      (pss_one (ps_ret (pe_lst (pa_cons (pe_op op_mul (pv 2) (pe_callTy call_int1 (by rfl) T.z_int (by decide +kernel) (pa_cons (pe_cmpR op_ge (pv 2) (pe_op op_pow pe_int pe_int) (nomark _)) pa_nil))) (pa_cons (pv 3) pa_nil))))))))), ?_⟩
    have hst : start ["_law_script", "_law_k", "_law_cell", "_law_seed"] [.ref a, .int k] = [some (.ref a), some (.int k), none, none] := rfl
    rw [hst]
    walk_at "rd"
    refine ⟨by show 0 ≤ sizeLine; decide, fun p0 hp0 => ?_⟩
    have s0 : Same H (upd H p0 (.lst [])) := same_new hp0 _
    have hn : SqL K (upd H p0 (.lst [])) p0 [] := SqL.of upd_same
    refine ne_lists (s0.seq hS) hn (ok_ints ns) rfl ?_
    rw [eqL_nil]
    -- the end, from any cell
    have fin : ∀ c : Int, CMul 104729 k ∧ CMul (c % 2147483629 + 104729 * k + 11) 48271 ∧ (0 : Int) < 2147483647 ∧ CPow 10 18 ∧ CMul c (if decide (10 ^ Int.toNat 18 ≤ c) = true then 1 else 0) ∧
        [V.int (c * if decide (10 ^ Int.toNat 18 ≤ c) = true then 1 else 0), V.int ((c % 2147483629 + 104729 * k + 11) * 48271 % 2147483647)].length ≤ sizeLine ∧
        ∀ p, upd H p0 (.lst []) p = none → Q (.ref p) (upd (upd H p0 (.lst [])) p (.lst [V.int (c * if decide (10 ^ Int.toNat 18 ≤ c) = true then 1 else 0), V.int ((c % 2147483629 + 104729 * k + 11) * 48271 % 2147483647)])) := fun c => by
      have e1 := emod_lt (a := c) (b := 2147483629) (by decide)
      have e2 := emod_lt (a := (c % 2147483629 + 104729 * k + 11) * 48271) (b := 2147483647) (by decide)
      refine ⟨.inl (by decide), .inr (by decide), by decide, ⟨by decide, by decide, by decide⟩, .inr (by split <;> decide), by show 2 ≤ sizeLine; decide, fun p hp => ?_⟩
      refine q p (c * if decide (10 ^ Int.toNat 18 ≤ c) = true then 1 else 0, (c % 2147483629 + 104729 * k + 11) * 48271 % 2147483647) _ (s0.trans (same_new hp _)) (s0.free hp) ⟨?_, e2.1, e2.2⟩ upd_same
      show 0 ≤ c * if decide (10 ^ Int.toNat 18 ≤ c) = true then 1 else 0
      split
      · rename_i h
        have h' := of_decide_eq_true h
        have : (0 : Int) ≤ 10 ^ Int.toNat 18 := by decide
        omega
      · omega
    cases hns : ns with
    | nil =>
      simp only [List.map_nil, List.isEmpty_nil]
      walk_at "rd"
      refine ⟨_, .inl (s0.seq hS), ?_⟩
      refine ite2 (fun c => ⟨by decide, by decide, ?_⟩) (fun c => ⟨by decide, ?_⟩)
      · exact fin _
      · exact fin _
    | cons n ms =>
      simp only [List.map_cons, List.isEmpty_cons]
      walk_at "rd"
      have hlen : 0 < ns.length := by rw [hns]; exact Nat.succ_pos _
      have e1 := emod_lt (a := k) (b := ns.length) (by omega)
      have hi : (k % (ns.length : Int)).toNat < ns.length := by omega
      refine ⟨_, .inl (s0.seq hS), ?_⟩
      rw [List.length_map]
      refine ⟨by omega, ix_at (s0.seq hS) e1.1 (mem_map_int hi) ?_⟩
      walk_at "rd"
      refine ⟨_, .inl (s0.seq hS), ?_⟩
      refine ite2 (fun c => ⟨by decide, by decide, ?_⟩) (fun c => ⟨by decide, ?_⟩)
      · exact fin _
      · exact fin _

def But (p : Addr) (H H' : Hp) : Prop := ∀ q o, q ≠ p → H q = some o → H' q = some o
theorem But.refl (p : Addr) (H : Hp) : But p H H := fun _ _ _ h => h
theorem But.trans {p : Addr} {H H1 H2 : Hp} (a : But p H H1) (b : But p H1 H2) : But p H H2 := fun q o hq h => b q o hq (a q o hq h)
theorem But.new {p q : Addr} {H H1 : Hp} (a : But p H H1) (h : H1 q = none) (o : HO) : But p H (upd H1 q o) := fun b u hb e => by
  have := a b u hb e
  rw [upd_ne (ne_of_none this h)]; exact this
theorem But.mut {p q : Addr} {H H1 : Hp} (a : But p H H1) (h : H q = none) (o : HO) : But p H (upd H1 q o) := fun b u hb e => by
  rw [upd_ne (ne_of_none e h)]; exact a b u hb e
theorem ok__law_letter (T : Top K mg) : FnOk P w K mg base CX0 2 T.a__law_letter T.d__law_letter ["_law_draws_here"] (fun vs H Q _ => ∃ (p : Addr) (d : Int × Int), vs = [.ref p] ∧ H p = some (dw d) ∧ okD d ∧
    ∀ (c : Nat) (d' : Int × Int) (H' : Hp), isLet c = true → okD d' → H' p = some (dw d') → But p H H' → Q (.str (sg c)) H') := by
  have G__law_draw := ok__law_draw (w := w) (base := base) T
  refine T.F__law_letter.ok sc__law_letter (fun vs H Q E h => ?_) (fun cdv A outer s H vs Q E hr h => ?_)
  · obtain ⟨p, d, rfl, _⟩ := h
    rfl
  · obtain ⟨p, d, rfl, hp, hd, q⟩ := h
    refine ⟨_, (pss_one (ps_ret (pe_ix ix_str pe_str (pe_call G__law_draw (hr.mono (by first | decide | omega)) rfl T.m__law_draw T.F__law_draw.kp T.b__law_draw .nil pass0 (pa_cons (pv 0) (pa_cons pe_int pa_nil))) (fun _ _ => rfl)))), ?_⟩
    have hst : start ["_law_draws_here"] [.ref p] = [some (.ref p)] := rfl
    rw [hst]
    walk_at "rd"
    simp only [sp_draw]
    refine ⟨p, d, 6, rfl, hp, hd, by decide, by decide, fun v d' H' h0 h1 hd' hp' k => ?_⟩
    have hc : v = 0 ∨ v = 1 ∨ v = 2 ∨ v = 3 ∨ v = 4 ∨ v = 5 := by omega
    rcases hc with rfl | rfl | rfl | rfl | rfl | rfl
    all_goals (refine ix_str_at (by decide) (by decide) (by first | rfl | decide) ?_; exact q _ d' H' (by decide) hd' hp' k)
def sp_seq : Sp := fun vs H Q _ => ∃ (p : Addr) (d : Int × Int) (m : Nat), vs = [.ref p, .int (m : Int)] ∧ H p = some (dw d) ∧ okD d ∧ m ≤ 1000 ∧
    ∀ (z : Str) (d' : Int × Int) (H' : Hp), (tl z).all isStep = true → z.length ≤ m → okD d' → H' p = some (dw d') → But p H H' → Q (.str z) H'
theorem ok__law_sequence (T : Top K mg) : FnOk P w K mg base CX0 3 T.a__law_sequence T.d__law_sequence ["_law_draws_here", "_law_most"] sp_seq := by
  have G__law_draw := ok__law_draw (w := w) (base := base) T
  have G__law_letter := ok__law_letter (w := w) (base := base) T
  refine T.F__law_sequence.ok sc__law_sequence (fun vs H Q E h => ?_) (fun cdv A outer s H vs Q E hr h => ?_)
  · obtain ⟨p, d, m, rfl, _⟩ := h
    rfl
  · obtain ⟨p, d, m, rfl, hp, hd, hm, q⟩ := h
    refine ⟨_, (pss_cons (ps_set (i := 2) sc__law_sequence.nd rfl (Or.inl rfl) (pe_lst pa_nil))
      (pss_cons (ps_set (i := 3) sc__law_sequence.nd rfl (Or.inl rfl) (pe_op op_add pe_int (pe_call G__law_draw (hr.mono (by first | decide | omega)) rfl T.m__law_draw T.F__law_draw.kp T.b__law_draw .nil pass0 (pa_cons (pv 0) (pa_cons pe_int pa_nil)))))
      (pss_cons (ps_for PassesOwn.never rfl (pi_range1 (by rfl) T.z_range (pa_cons (pe_call G__law_draw (hr.mono (by first | decide | omega)) rfl T.m__law_draw T.F__law_draw.kp T.b__law_draw .nil pass0 (pa_cons (pv 0) (pa_cons (pe_op op_add (pv 1) pe_int) pa_nil))) pa_nil)) (pg_name (i := 4) sc__law_sequence.nd rfl (Or.inl rfl)) (pss_one (ps_expr (pe_bm PySem.F.plainAttrs_list PySem.F.slot_list_append PySem.F.type_list_append mt_append (pv 2) (pa_cons (pe_ix ix_list (pe_lst (pa_cons (pe_call G__law_letter (hr.mono (by first | decide | omega)) rfl T.m__law_letter T.F__law_letter.kp T.b__law_letter .nil pass0 (pa_cons (pv 0) pa_nil)) (pa_cons pe_str pa_nil))) (pe_callTy call_int1 (by rfl) T.z_int (by decide +kernel) (pa_cons (pe_cmpR op_lt (pe_call G__law_draw (hr.mono (by first | decide | omega)) rfl T.m__law_draw T.F__law_draw.kp T.b__law_draw .nil pass0 (pa_cons (pv 0) (pa_cons pe_int pa_nil))) (pv 3) (nomark _)) pa_nil)) (fun _ _ => rfl)) pa_nil)))))
      (pss_one (ps_ret (pe_join pe_str (pv 2))))))), ?_⟩
    have hst : start ["_law_draws_here", "_law_most", "_law_some", "_law_way", "_law_turn"] [.ref p, .int m] = [some (.ref p), some (.int m), none, none, none] := rfl
    rw [hst]
    walk_at "rd"
    refine ⟨by walk_at "sz", fun l hl => ?_⟩
    simp only [sp_draw]
    have lp : l ≠ p := fun e => by rw [e, hp] at hl; cases hl
    have hp1 : upd H l (.lst []) p = some (dw d) := by rw [upd_ne (Ne.symm lp)]; exact hp
    refine ⟨p, d, 4, rfl, hp1, hd, by decide, by decide, fun way d1 H1 w0 w1 hd1 hp2 k1 => ?_⟩
    have hl1 : H1 l = some (.lst []) := k1 l _ lp upd_same
    have B1 : But p H H1 := fun q o hq e => k1 q o hq (by rw [upd_ne (ne_of_none e hl)]; exact e)
    clear hp1 k1
    refine ⟨_, rfl, ?_⟩
    refine forR fun R kR => ?_
    walk_at "rd"
    simp only [sp_draw]
    refine ⟨p, d1, (m : Int) + 1, rfl, hp2, hd1, by omega, by omega, fun n d2 H2 n0 n1 hd2 hp3 k2 => ?_⟩
    have hl2 : H2 l = some (.lst []) := k2 l _ lp hl1
    have B2 : But p H H2 := B1.trans k2
    refine kR n (fun i σ H' => ∃ (cs : List Nat) (dd : Int × Int) (x4 : Option V), σ = [some (.ref p), some (.int m), some (.ref l), some (.int (1 + way)), x4] ∧ cs.length = i ∧ cs.all isStep = true ∧ okD dd ∧ H' p = some (dw dd) ∧ H' l = some (.lst ((cs.map sg).map V.str)) ∧ But p H H')
      H2 (by omega) (by omega) ⟨[], d2, _, rfl, rfl, rfl, hd2, hp3, hl2, B2⟩ ?_ ?_
    · rintro i σ H' hi ⟨cs, dd, x4, rfl, hcl, hcs, hdd, hpp, hll, BB⟩
      walk_at "rd"
      refine ⟨.inl ⟨_, SqL.of hll⟩, dd, hpp, hdd, fun c d3 H3 hc hd3 hp3' k3 => ⟨by walk_at "sz", fun r hr => ?_⟩⟩
      have rp : r ≠ p := fun e => by rw [e, hp3'] at hr; cases hr
      have hl3 := k3 l _ lp hll
      have rl : r ≠ l := fun e => by rw [e, hl3] at hr; cases hr
      simp only [sp_draw]
      refine ⟨p, d3, 5, rfl, by rw [upd_ne (Ne.symm rp)]; exact hp3', hd3, by decide, by decide, fun v d4 H4 v0 v1 hd4 hp4 k4 => ⟨_, rfl, ?_⟩⟩
      have hr4 := k4 r _ rp upd_same
      have hl4 := k4 l _ lp (by rw [upd_ne (Ne.symm rl)]; exact hl3)
      have B4 : But p H H4 := ((BB.trans k3).new hr _).trans k4
      have hsz : ((cs.map sg).map V.str).length < sizeLine := by
        rw [List.length_map, List.length_map, hcl]
        exact Nat.lt_of_le_of_lt (by omega : i ≤ 100000) (by decide)
      have fin : ∀ x : Nat, isStep x = true → rAppend (V.ref l) [.str (sg x)] H4 fun x H1 =>
          (∃ x, some (V.int (0 + ↑i)) = x) ∧ ∃ x, x.length = i + 1 ∧ x.all isStep = true ∧ ∃ x_1, okD x_1 ∧ H1 p = some (dw x_1) ∧ H1 l = some (HO.lst (List.map V.str (List.map sg x))) ∧ But p H H1 := fun x hx => by
        refine ⟨l, _, _, rfl, rfl, hl4, hsz, ⟨_, rfl⟩, cs ++ [x], by rw [List.length_append, hcl]; rfl, by rw [List.all_append, hcs]; simp [hx], d4, hd4, by rw [upd_ne (Ne.symm lp)]; exact hp4, by rw [upd_same]; simp, B4.mut hl _⟩
      by_cases hv : v < 1 + way
      · rw [decide_eq_true hv]
        exact ix_at (SqL.of hr4) (by decide) rfl (fin 45 (by decide))
      · rw [decide_eq_false hv]
        exact ix_at (SqL.of hr4) (by decide) rfl (fin c (by unfold isStep; rw [hc]; rfl))
    · rintro σ H' ⟨cs, dd, x4, rfl, hcl, hcs, hdd, hpp, hll, BB⟩
      walk_at "rd"
      have hj : tl (Txt.join (Str.ofString "") (cs.map sg)) = cs := by
        show tl (Txt.join ("" : Str) (cs.map sg)) = _
        rw [tl_join0, flat_sg]
      refine ⟨⟨_, rfl⟩, cs.map sg, .inl (SqL.of hll), ?_, q _ dd H' (by rw [hj]; exact hcs) (by rw [← tl_len, hj]; omega) hdd hpp BB⟩
      rw [len_sg, show (Str.ofString "").length = 0 from rfl, Nat.mul_zero]
      exact Nat.le_trans (by omega : _ ≤ 100000) (by decide)
/-! ### _law_program -/
def Lt : Nat → Nat
  | 0 => 0
  | n + 1 => 3 * (6 + Lt n)
def Lf : Nat → Nat
  | 0 => 0
  | n + 1 => 3 * (3 + 4 * Lf n)
def sp_prog (n : Nat) : Sp := fun vs H Q _ => ∃ (p : Addr) (d : Int × Int) (m : Nat), vs = [.ref p, .int (m : Int)] ∧ H p = some (dw d) ∧ okD d ∧ m < n ∧ n ≤ 4 ∧
    ∀ (r : Addr) (zt zf : Str) (d' : Int × Int) (H' : Hp), Pr m (tl zt) (tl zf) → zt.length ≤ Lt (m + 1) → zf.length ≤ Lf (m + 1) → okD d' → H' p = some (dw d') → But p H H' → H r = none → H' r = some (.tup [.str zt, .str zf]) → Q (.ref r) H'
theorem rec_prog (T : Top K mg) : ∀ n : Nat, FnOk P w K mg base CX0 (n + 4) T.a__law_program T.d__law_program ["_law_draws_here", "_law_depth"] (sp_prog n)
  | 0 => by
    refine T.F__law_program.ok sc__law_program (fun vs H Q E h => ?_) (fun cdv A outer s H vs Q E hr h => ?_)
    · obtain ⟨p, d, m, rfl, _⟩ := h
      rfl
    · obtain ⟨p, d, m, rfl, _, _, h, _⟩ := h
      exact absurd h (Nat.not_lt_zero _)
  | n + 1 => by
    have G__law_program := rec_prog T n
    have G__law_draw := ok__law_draw (w := w) (base := base) T
    have G__law_sequence := ok__law_sequence (w := w) (base := base) T
    refine T.F__law_program.ok sc__law_program (fun vs H Q E h => ?_) (fun cdv A outer s H vs Q E hr h => ?_)
    · obtain ⟨p, d, m, rfl, _⟩ := h
      rfl
    · obtain ⟨p, d, m, rfl, hp, hd, hm, hn, q⟩ := h
      refine ⟨_, (pss_cons (ps_asg (pe_tup (pa_cons pe_str (pa_cons pe_str pa_nil))) (pg_tup (by rfl) (pgs_cons (pg_name (i := 2) sc__law_program.nd rfl (Or.inl rfl)) (pgs_cons (pg_name (i := 3) sc__law_program.nd rfl (Or.inl rfl)) pgs_nil))))
      (pss_cons (ps_for PassesOwn.never rfl (pi_range1 (by rfl) T.z_range (pa_cons (pe_op op_add pe_int (pe_call G__law_draw (hr.mono (by first | decide | omega)) rfl T.m__law_draw T.F__law_draw.kp T.b__law_draw .nil pass0 (pa_cons (pv 0) (pa_cons pe_int pa_nil)))) pa_nil)) (pg_name (i := 4) sc__law_program.nd rfl (Or.inl rfl)) (pss_cons (ps_set (i := 5) sc__law_program.nd rfl (Or.inl rfl) (pe_call G__law_sequence (hr.mono (by first | decide | omega)) rfl T.m__law_sequence T.F__law_sequence.kp T.b__law_sequence .nil pass0 (pa_cons (pv 0) (pa_cons pe_int pa_nil))))
      (pss_cons (ps_par (i := 2) (j := 3) (by rfl) sc__law_program.nd rfl rfl (by decide) rfl rfl (pa_cons (pe_op op_add_str (pv 2) (pv 5)) (pa_cons (pe_op op_add_str (pv 3) (pv 5)) pa_nil)) (by rfl))
      (pss_one (ps_if (PW.pt (pw_and (pt_cmpR op_gt (pv 1) pe_int (nomark _)) (pw_and1 (pt_cmpR op_eq (pe_call G__law_draw (hr.mono (by first | decide | omega)) rfl T.m__law_draw T.F__law_draw.kp T.b__law_draw .nil pass0 (pa_cons (pv 0) (pa_cons pe_int pa_nil))) pe_int (nomark _))))) (pss_cons (ps_asg (pe_call G__law_program (hr.mono (by first | decide | omega)) rfl T.m__law_program T.F__law_program.kp T.b__law_program .nil pass0 (pa_cons (pv 0) (pa_cons (pe_op op_sub (pv 1) pe_int) pa_nil))) (pg_tup (by rfl) (pgs_cons (pg_name (i := 6) sc__law_program.nd rfl (Or.inl rfl)) (pgs_cons (pg_name (i := 7) sc__law_program.nd rfl (Or.inl rfl)) pgs_nil))))
      (pss_cons (ps_set (i := 8) sc__law_program.nd rfl (Or.inl rfl) (pe_call G__law_draw (hr.mono (by first | decide | omega)) rfl T.m__law_draw T.F__law_draw.kp T.b__law_draw .nil pass0 (pa_cons (pv 0) (pa_cons pe_int pa_nil))))
      (pss_cons (ps_set (i := 2) sc__law_program.nd rfl (Or.inl rfl) (pe_op op_add_str (pe_op op_add_str (pe_op op_add_str (pe_op op_add_str (pv 2) pe_str) (pv 6)) pe_str) (pe_callTy call_str_int (by rfl) T.z_str (by decide +kernel) (pa_cons (pv 8) pa_nil))))
      (pss_one (ps_set (i := 3) sc__law_program.nd rfl (Or.inl rfl) (pe_op op_add_str (pv 3) (pe_op op_rep_str (pv 7) (pv 8)))))))) pss_nil)))))
      (pss_one (ps_ret (pe_tup (pa_cons (pv 2) (pa_cons (pv 3) pa_nil))))))), ?_⟩
      have hst : start ["_law_draws_here", "_law_depth", "_law_text", "_law_full", "_law_turn", "_law_stretch", "_law_inner", "_law_spelled", "_law_count"] [.ref p, .int m] = [some (.ref p), some (.int m), none, none, none, none, none, none, none] := rfl
      rw [hst]
      walk_at "rd"
      refine ⟨by walk_at "sz", fun t0 ht0 => ⟨[.str "", .str ""], SqT.of upd_same, rfl, ?_⟩⟩
      simp only [gCons, gNil]
      walk_at "rd"
      have hp0 : upd H t0 (.tup [.str "", .str ""]) p = some (dw d) := by rw [upd_ne (ne_of_none hp ht0)]; exact hp
      have B0 : But p H (upd H t0 (.tup [.str "", .str ""])) := (But.refl p H).new ht0 _
      generalize upd H t0 (.tup [.str "", .str ""]) = H0 at hp0 B0 ⊢
      refine forR fun R kR => ?_
      walk_at "rd"
      simp only [sp_draw]
      refine ⟨p, d, 3, rfl, hp0, hd, by decide, by decide, fun nn d1 H1 n0 n1 hd1 hp1 k1 => ?_⟩
      have hb : Lt m ≤ 234 ∧ Lf m ≤ 1413 := by
        have hm4 : m < 4 := by omega
        rcases (by omega : m = 0 ∨ m = 1 ∨ m = 2 ∨ m = 3) with rfl | rfl | rfl | rfl <;> decide
      obtain ⟨hb1, hb2⟩ := hb
      refine ⟨nn, rfl, ?_⟩
      refine kR (1 + nn) (fun i σ H' => ∃ (zt zf : Str) (dd : Int × Int) (x4 x5 x6 x7 x8 : Option V), σ = [some (.ref p), some (.int m), some (.str zt), some (.str zf), x4, x5, x6, x7, x8] ∧ Pr m (tl zt) (tl zf) ∧
        zt.length ≤ i * (6 + Lt m) ∧ zf.length ≤ i * (3 + 4 * Lf m) ∧ okD dd ∧ H' p = some (dw dd) ∧ But p H H')
        H1 (by omega) (by omega) ⟨"", "", d1, _, _, _, _, _, rfl, .nil m, by rw [show (Str.ofString "").length = 0 from rfl]; exact Nat.zero_le _, by rw [show (Str.ofString "").length = 0 from rfl]; exact Nat.zero_le _, hd1, hp1, B0.trans k1⟩ ?_ ?_
      · rintro i σ H' hi ⟨zt, zf, dd, x4, x5, x6, x7, x8, rfl, hPr, hlt, hlf, hdd, hpp, BB⟩
        have hi3 : i ≤ 2 := by omega
        have hi1 : i * (6 + Lt m) ≤ 2 * (6 + Lt m) := Nat.mul_le_mul_right _ hi3
        have hi2 : i * (3 + 4 * Lf m) ≤ 2 * (3 + 4 * Lf m) := Nat.mul_le_mul_right _ hi3
        rw [Nat.succ_mul, Nat.succ_mul]
        walk_at "rd"
        simp only [sp_seq]
        refine ⟨p, dd, 3, rfl, hpp, hdd, by decide, fun z d2 H2 hz hz3 hd2 hp2 k2 => ?_⟩
        walk_at "rd"
        have la : ∀ x y : Str, (x ++ y).length = x.length + y.length := fun x y => by rw [← tl_len, ← tl_len, ← tl_len, tl_app, List.length_append]
        have hPr2 : Pr m (tl (zt ++ z)) (tl (zf ++ z)) := by rw [tl_app, tl_app]; exact hPr.app (.steps hz)
        have hl1 := la zt z
        have hl2 := la zf z
        have big : ∀ k : Nat, k ≤ 100000 → k ≤ sizeLine := fun k h => sz_of h
        refine ⟨big _ (by omega), big _ (by omega), ?_⟩
        have B2 := BB.trans k2
        have done : ∀ (dd' : Int × Int) (H3 : Hp), okD dd' → H3 p = some (dw dd') → But p H H3 → (∃ x, some (V.int (0 + ↑i)) = x) ∧ (∃ x, some (V.str z) = x) ∧ (∃ x, x6 = x) ∧ (∃ x, x7 = x) ∧ (∃ x, x8 = x) ∧
            Pr m (tl (zt ++ z)) (tl (zf ++ z)) ∧ (zt ++ z).length ≤ i * (6 + Lt m) + (6 + Lt m) ∧ (zf ++ z).length ≤ i * (3 + 4 * Lf m) + (3 + 4 * Lf m) ∧ ∃ x, okD x ∧ H3 p = some (dw x) ∧ But p H H3 :=
          fun dd' H3 a1 a2 a3 => ⟨⟨_, rfl⟩, ⟨_, rfl⟩, ⟨_, rfl⟩, ⟨_, rfl⟩, ⟨_, rfl⟩, hPr2, by omega, by omega, dd', a1, a2, a3⟩
        by_cases hm0 : (0 : Int) < (m : Int)
        · rw [decide_eq_true hm0, if_pos rfl]
          simp only [sp_draw]
          refine ⟨p, d2, 2, rfl, hp2, hd2, by decide, by decide, fun v d3 H3 v0 v1 hd3 hp3 k3 => ⟨trivial, ?_⟩⟩
          by_cases hv : v = 0
          · subst hv
            rw [decide_eq_true rfl, if_pos rfl]
            obtain ⟨m', rfl⟩ : ∃ m', m = m' + 1 := ⟨m - 1, by omega⟩
            simp only [sp_prog]
            refine ⟨p, d3, m', by simp, hp3, hd3, by omega, by omega, fun r zt2 zf2 d4 H4 hPr3 hlt3 hlf3 hd4 hp4 k4 hr3 hr4 => ⟨r, rfl, [.str zt2, .str zf2], SqT.of hr4, rfl, ?_⟩⟩
            simp only [gCons, gNil]
            walk_at "rd"
            simp only [sp_draw]
            refine ⟨p, d4, 5, rfl, hp4, hd4, by decide, by decide, fun c d5 H5 c0 c1 hd5 hp5 k5 => ?_⟩
            walk_at "rd"
            obtain ⟨k, rfl⟩ : ∃ k : Nat, c = k := ⟨c.toNat, by omega⟩
            have hk5 : k < 5 := by omega
            have hdg : tl (Str.ofString (toString (k : Int))) = digs k := PySem.W.KIN.signs_num k
            have hdl : (Str.ofString (toString (k : Int))).length ≤ 1 := by
              rw [← tl_len, hdg]; exact digs_lt (by decide) (by omega)
            have hop : (Str.ofString "(").length = 1 := by decide +kernel
            have hcl : (Str.ofString ")").length = 1 := by decide +kernel
            have hto : tl (Str.ofString "(") = [40] := by decide +kernel
            have htc : tl (Str.ofString ")") = [41] := by decide +kernel
            have B5 := (B2.trans k3).trans (k4.trans k5)
            have hrep : (srep zf2 k).length = k * zf2.length := by rw [← tl_len, tl_srep, len_flat_rep, tl_len]
            have hrl : k * zf2.length ≤ 4 * zf2.length := Nat.mul_le_mul_right _ (by omega)
            have e1 : tl (zt ++ z ++ Str.ofString "(" ++ zt2 ++ Str.ofString ")" ++ Str.ofString (toString (k : Int))) = tl (zt ++ z) ++ 40 :: (tl zt2 ++ 41 :: digs k) := by
              rw [tl_app, tl_app, tl_app, tl_app, hdg, hto, htc]; simp
            have e2 : tl (zf ++ z ++ srep zf2 k) = tl (zf ++ z) ++ (List.replicate k (tl zf2)).flatten := by rw [tl_app, tl_srep]
            have ez : (k : Int).toNat = k := Int.toNat_natCast k
            refine ⟨big _ (by omega), big _ (by rw [la]; omega), big _ (by rw [la, la]; omega), ?_, big _ (by rw [la, la, la]; omega), zf2, k, rfl, rfl, by omega, by omega, by rw [ez, Nat.mul_comm]; omega, ?_⟩
            · rw [Int.natAbs_natCast]
              by_cases hk0 : k = 0
              · rw [hk0]; decide
              · exact (Nat.log2_lt hk0).mpr (Nat.lt_of_lt_of_le hk5 (Nat.le_trans (by decide : 5 ≤ 2 ^ 3) (Nat.pow_le_pow_right (by decide) (by decide))))
            · rw [ez]
              refine ⟨_, rfl, big _ (by rw [hrep]; omega), ⟨_, rfl⟩, ⟨_, rfl⟩, ⟨_, rfl⟩, ⟨_, rfl⟩, ⟨_, rfl⟩, ?_, ?_, ?_, d5, hd5, hp5, B5⟩
              · rw [e1, e2]
                exact hPr2.app (Pr.one hPr3 (by omega))
              · rw [la, la, la, la]; omega
              · rw [la, hrep]; omega
          · rw [decide_eq_false (fun e => hv (by injection e)), if_neg (by decide)]
            exact done d3 H3 hd3 hp3 (B2.trans k3)
        · rw [decide_eq_false hm0, if_neg (by decide)]
          exact done d2 H2 hd2 hp2 B2
      · rintro σ H' ⟨zt, zf, dd, x4, x5, x6, x7, x8, rfl, hPr, hlt, hlf, hdd, hpp, BB⟩
        have hi3 : (1 + nn).toNat ≤ 3 := by omega
        have hi1 : (1 + nn).toNat * (6 + Lt m) ≤ 3 * (6 + Lt m) := Nat.mul_le_mul_right _ hi3
        have hi2 : (1 + nn).toNat * (3 + 4 * Lf m) ≤ 3 * (3 + 4 * Lf m) := Nat.mul_le_mul_right _ hi3
        walk_at "rd"
        refine ⟨by walk_at "sz", fun r hr => q r zt zf dd _ hPr (by rw [Lt]; omega) (by rw [Lf]; omega) hdd ?_ (BB.new hr _) ?_ upd_same⟩
        · rw [upd_ne (ne_of_none hpp hr)]; exact hpp
        · cases e : H r with
          | none => rfl
          | some u =>
            have := BB r u (ne_of_none hpp hr |>.symm) e
            rw [hr] at this; cases this
theorem ok__law_program (T : Top K mg) : FnOk P w K mg base CX0 8 T.a__law_program T.d__law_program ["_law_draws_here", "_law_depth"] (sp_prog 4) := rec_prog T 4

/-! ### capacities, modes, checks -/
def isCapV : V → Bool | .int i => decide (1 ≤ i) && decide (i ≤ 100) | _ => false
def isModeV : V → Bool | .str s => decide (s = "oldest") || (decide (s = "newest") || decide (s = "strict")) | _ => false
def isLenV (x : V) (c : Int) : Bool := match x with | .int i => decide (0 ≤ i) && decide (i ≤ c) | _ => false
theorem ok_is_capacity (T : Top K mg) : FnOk P w K mg base CX0 3 T.a_is_capacity T.d_is_capacity ["value"] (sp_has K isCapV) := by
  have G_is_int_between := ok_is_int_between (w := w) (base := base) T
  refine T.F_is_capacity.ok sc_is_capacity (fun vs H Q E h => ?_) (fun cdv A outer s H vs Q E hr h => ?_)
  · obtain ⟨x, rfl, _⟩ := h
    rfl
  · obtain ⟨x, rfl, kx, q⟩ := h
    refine ⟨_, (pss_one (ps_ret (pe_call G_is_int_between (hr.mono (by first | decide | omega)) rfl T.m_is_int_between T.F_is_int_between.kp T.b_is_int_between .nil pass0 (pa_cons (pv 0) (pa_cons pe_int (pa_cons (pe_glob (v := .int 100) (by rfl) T.c_MOST_CAPACITY ⟨_, rfl⟩) pa_nil)))))), ?_⟩
    have hst : start ["value"] [x] = [some x] := rfl
    rw [hst]
    walk_at "rd"
    try simp only [sp_is_int_between]
    walk_at "rd"
    refine ⟨kx, ?_⟩
    cases x <;> exact q
theorem ok_is_mode (T : Top K mg) : FnOk P w K mg base CX0 1 T.a_is_mode T.d_is_mode ["value"] (sp_has K isModeV) := by

  refine T.F_is_mode.ok sc_is_mode (fun vs H Q E h => ?_) (fun cdv A outer s H vs Q E hr h => ?_)
  · obtain ⟨x, rfl, _⟩ := h
    rfl
  · obtain ⟨x, rfl, kx, q⟩ := h
    refine ⟨_, (pss_one (ps_ret (pe_and (pe_callB call_isi (by rfl) T.z_isinstance (by decide +kernel) (pa_cons (pv 0) (pa_cons (pe_bltn (v := .ty "str") (by rfl) T.z_str (by decide +kernel) rfl) pa_nil))) (pe_one (pe_cmpR op_in_seq (pv 0) (pe_glob (v := .ref T.p_MODES) (by rfl) T.c_MODES rfl) (by rfl)))))), ?_⟩
    have hst : start ["value"] [x] = [some x] := rfl
    rw [hst]
    walk_at "rd"
    refine isi_str kx ?_
    cases kx with
    | str z hz =>
      simp only [tStr]
      walk_at "rd"
      refine ⟨_, _, rfl, .inr (T.t_MODES H), rfl, rfl, ?_⟩
      have e : isModeV (.str z) = inV (.str z) [.str "oldest", .str "newest", .str "strict"] := by
        simp only [isModeV, inV, List.any_cons, List.any_nil, eqV, Bool.or_false]
        simp only [eq_comm (a := z)]
        rfl
      rw [e] at q
      exact q
    | _ => simp only [tStr]; walk_at "rd"; exact q
theorem ok_check_capacity (T : Top K mg) : FnOk P w K mg base (L2.CX P w) 4 T.a_check_capacity T.d_check_capacity ["value"] (fun vs H Q E => ∃ x, vs = [x] ∧ Kd K H x ∧ (isCapV x = false → E (.ref T.x_InvalidCapacity) none H) ∧ (isCapV x = true → Q .non H)) := by
  have G_is_capacity := ok_is_capacity (w := w) (base := base) T
  refine T.F_check_capacity.okX sc_check_capacity (fun vs H Q E h => ?_) (fun cdv A outer s H vs Q E hr h => ?_)
  · obtain ⟨x, rfl, _⟩ := h
    rfl
  · obtain ⟨x, rfl, kx, e1, q⟩ := h
    refine ⟨_, (pss_one (ps_if (pt_not (pt_val (pe_call G_is_capacity (hr.mono (by first | decide | omega)) rfl T.m_is_capacity T.F_is_capacity.kp T.b_is_capacity .nil pass0 (pa_cons (pv 0) pa_nil)))) (pss_one (ps_raise rfl (takes_of rfl rfl rfl rfl) (pmk_own PySem.F.excBase_ValueError T.q_InvalidCapacity T.g_InvalidCapacity T.k_InvalidCapacity (raises_own T.b_InvalidCapacity T.t_InvalidCapacity) rfl))) pss_nil)), ?_⟩
    have hst : start ["value"] [x] = [some x] := rfl
    rw [hst]
    walk_at "rd"
    simp only [sp_has]
    walk_at "rd"
    refine ⟨kx, ?_⟩
    cases hc : isCapV x with
    | false => exact e1 hc
    | true => exact q hc
theorem ok_check_mode (T : Top K mg) : FnOk P w K mg base (L2.CX P w) 2 T.a_check_mode T.d_check_mode ["value"] (fun vs H Q E => ∃ x, vs = [x] ∧ Kd K H x ∧ (isModeV x = false → E (.ref T.x_InvalidMode) none H) ∧ (isModeV x = true → Q .non H)) := by
  have G_is_mode := ok_is_mode (w := w) (base := base) T
  refine T.F_check_mode.okX sc_check_mode (fun vs H Q E h => ?_) (fun cdv A outer s H vs Q E hr h => ?_)
  · obtain ⟨x, rfl, _⟩ := h
    rfl
  · obtain ⟨x, rfl, kx, e1, q⟩ := h
    refine ⟨_, (pss_one (ps_if (pt_not (pt_val (pe_call G_is_mode (hr.mono (by first | decide | omega)) rfl T.m_is_mode T.F_is_mode.kp T.b_is_mode .nil pass0 (pa_cons (pv 0) pa_nil)))) (pss_one (ps_raise rfl (takes_of rfl rfl rfl rfl) (pmk_own PySem.F.excBase_ValueError T.q_InvalidMode T.g_InvalidMode T.k_InvalidMode (raises_own T.b_InvalidMode T.t_InvalidMode) rfl))) pss_nil)), ?_⟩
    have hst : start ["value"] [x] = [some x] := rfl
    rw [hst]
    walk_at "rd"
    simp only [sp_has]
    walk_at "rd"
    refine ⟨kx, ?_⟩
    cases hc : isModeV x with
    | false => exact e1 hc
    | true => exact q hc
def greatV (C : Int) (m : Str) (p : Prf) : Int := if m = "strict" then C - p.high else C
def noStart (C : Int) (m : Str) (p : Prf) : Bool := decide (C < p.fall) || decide (greatV C m p < -p.low)
def sp_bounds (Cl : Addr) : Sp := fun vs H Q _ => ∃ (x : Addr) (p : Prf) (C : Int) (m : Str), vs = [.ref x, .int C, .str m] ∧ ProfAt Cl H x p ∧
  (noStart C m p = true → Q .non H) ∧ (noStart C m p = false → ∀ t, H t = none → Q (.ref t) (upd H t (.tup [.int (-p.low), .int (greatV C m p)])))
theorem ok_start_bounds (T : Top K mg) : FnOk P w K mg base CX0 3 T.a_start_bounds T.d_start_bounds ["profile", "capacity", "mode"] (sp_bounds T.x_Profile) := by
  have G_Profile_low := ok_Profile_low (w := w) (base := base) T
  have G_Profile_high := ok_Profile_high (w := w) (base := base) T
  have G_Profile_fall := ok_Profile_fall (w := w) (base := base) T
  refine T.F_start_bounds.ok sc_start_bounds (fun vs H Q E h => ?_) (fun cdv A outer s H vs Q E hr h => ?_)
  · obtain ⟨x, p, C, m, rfl, _⟩ := h
    rfl
  · obtain ⟨x, p, C, m, rfl, ⟨dx, hx⟩, q1, q2⟩ := h
    refine ⟨_, (pss_cons (ps_set (i := 3) sc_start_bounds.nd rfl (Or.inl rfl) (pe_un un_neg (pe_prop (pv 0) T.cl_Profile T.pr_Profile_low G_Profile_low (hr.mono (by first | decide | omega)) T.b_Profile_low .nil pass0 rfl)))
      (pss_cons (ps_set (i := 4) sc_start_bounds.nd rfl (Or.inl rfl) (pe_ifExp (pt_cmpR op_eq (pv 2) pe_str (nomark _)) (pe_op op_sub (pv 1) (pe_prop (pv 0) T.cl_Profile T.pr_Profile_high G_Profile_high (hr.mono (by first | decide | omega)) T.b_Profile_high .nil pass0 rfl)) (pv 1)))
      (pss_cons (ps_if (PW.pt (pw_or (pt_cmpR op_gt (pe_prop (pv 0) T.cl_Profile T.pr_Profile_fall G_Profile_fall (hr.mono (by first | decide | omega)) T.b_Profile_fall .nil pass0 rfl) (pv 1) (nomark _)) (pw_or1 (pt_cmpR op_gt (pv 3) (pv 4) (nomark _))))) (pss_one (ps_ret pe_non)) pss_nil)
      (pss_one (ps_ret (pe_tup (pa_cons (pv 3) (pa_cons (pv 4) pa_nil)))))))), ?_⟩
    have hst : start ["profile", "capacity", "mode", "least", "greatest"] [.ref x, .int C, .str m] = [some (.ref x), some (.int C), some (.str m), none, none] := rfl
    rw [hst]
    walk_at "rd"
    refine ⟨⟨_, _, hx⟩, x, p, rfl, ⟨_, hx⟩, _, rfl, ?_⟩
    by_cases hm : m = "strict"
    · have hm' : m = Str.ofString "strict" := hm
      have eg : greatV C m p = C - p.high := if_pos hm
      simp only [noStart, eg] at q1 q2
      rw [decide_eq_true hm', if_pos rfl]
      refine ⟨⟨_, _, hx⟩, x, p, rfl, ⟨_, hx⟩, _, rfl, ⟨_, _, hx⟩, x, p, rfl, ⟨_, hx⟩, _, rfl, ?_⟩
      cases h1 : decide (C < p.fall) with
      | true => rw [if_pos rfl]; exact q1 (by rw [h1]; rfl)
      | false =>
        rw [if_neg (by decide)]
        cases h2 : decide (C - p.high < -p.low) with
        | true => rw [if_pos rfl]; exact q1 (by rw [h2, Bool.or_true])
        | false =>
          rw [if_neg (by decide)]
          exact ⟨by walk_at "sz", q2 (by rw [h1, h2]; rfl)⟩
    · have hm' : ¬ m = Str.ofString "strict" := hm
      have eg : greatV C m p = C := if_neg hm
      simp only [noStart, eg] at q1 q2
      rw [decide_eq_false hm', if_neg (by decide)]
      refine ⟨⟨_, _, hx⟩, x, p, rfl, ⟨_, hx⟩, _, rfl, ?_⟩
      cases h1 : decide (C < p.fall) with
      | true => rw [if_pos rfl]; exact q1 (by rw [h1]; rfl)
      | false =>
        rw [if_neg (by decide)]
        cases h2 : decide (C < -p.low) with
        | true => rw [if_pos rfl]; exact q1 (by rw [h2, Bool.or_true])
        | false =>
          rw [if_neg (by decide)]
          exact ⟨by walk_at "sz", q2 (by rw [h1, h2]; rfl)⟩
def sp_slenE (K : PySem.W.Frag) (Cp Cc Cm : Addr) : Sp := fun vs H Q E => ∃ x c m, vs = [x, c, m] ∧ Kd K H x ∧ Kd K H c ∧ Kd K H m ∧
  (progV x = none → ∀ H1, Same H H1 → E (.ref Cp) none H1) ∧ (∀ ps, progV x = some ps → isCapV c = false → ∀ H1, Same H H1 → E (.ref Cc) none H1) ∧ (∀ ps, progV x = some ps → isCapV c = true → isModeV m = false → ∀ H1, Same H H1 → E (.ref Cm) none H1) ∧
  (∀ ps, progV x = some ps → isCapV c = true → isModeV m = true → ∀ v H1, Same H H1 → Q v H1)
theorem ok_start_lengths (T : Top K mg) : FnOk P w K mg base (L2.CX P w) 35 T.a_start_lengths T.d_start_lengths ["program", "capacity", "mode"] (sp_slenE K T.x_InvalidProgram T.x_InvalidCapacity T.x_InvalidMode) := by
  have G_Profile_of := ok_Profile_of (w := w) (base := base) T
  have G_check_capacity := ok_check_capacity (w := w) (base := base) T
  have G_check_mode := ok_check_mode (w := w) (base := base) T
  have G_start_bounds := ok_start_bounds (w := w) (base := base) T
  refine T.F_start_lengths.okX sc_start_lengths (fun vs H Q E h => ?_) (fun cdv A outer s H vs Q E hr h => ?_)
  · obtain ⟨x, c, m, rfl, _⟩ := h
    rfl
  · obtain ⟨x, c, m, rfl, kx, kc, km, e1, e2, e3, q⟩ := h
    refine ⟨_, (pss_cons (ps_set (i := 3) sc_start_lengths.nd rfl (Or.inl rfl) (ClX.pe_cmeth (pe_glob (v := .ref T.x_Profile) (by rfl) T.g_Profile rfl) T.rd_Profile T.cm_Profile_of (FnOk.raw G_Profile_of T.b_Profile_of .nil) (hr.mono (by first | decide | omega)) (passAll (takes_of rfl rfl rfl rfl)) (pa_cons (pv 0) pa_nil)))
      (pss_cons (ps_expr (pe_callS G_check_capacity (hr.mono (by first | decide | omega)) rfl T.m_check_capacity T.F_check_capacity.kp T.b_check_capacity (fun σ => passAt (takes_of rfl rfl rfl rfl) σ) (pa_cons (pv 1) pa_nil)))
      (pss_cons (ps_expr (pe_callS G_check_mode (hr.mono (by first | decide | omega)) rfl T.m_check_mode T.F_check_mode.kp T.b_check_mode (fun σ => passAt (takes_of rfl rfl rfl rfl) σ) (pa_cons (pv 2) pa_nil)))
      (pss_one (ps_ret (pe_call G_start_bounds (hr.mono (by first | decide | omega)) rfl T.m_start_bounds T.F_start_bounds.kp T.b_start_bounds .nil pass0 (pa_cons (pv 3) (pa_cons (pv 1) (pa_cons (pv 2) pa_nil))))))))), ?_⟩
    have hst : start ["program", "capacity", "mode", "profile"] [x, c, m] = [some x, some c, some m, none] := rfl
    rw [hst]
    walk_at "rd"
    simp only [tCallS]
    walk_at "rd"
    refine ⟨x, rfl, kx, fun e H1 s1 _ => e1 e H1 s1, fun ps e y H1 s1 hy hpy => ⟨kd_mono s1 kc, fun hc => e2 ps e hc H1 s1, fun hc => ⟨kd_mono s1 km, fun hm => e3 ps e hc hm H1 s1, fun hm => ?_⟩⟩⟩
    have q0 := q ps e hc hm
    cases c with
    | int C =>
      cases m with
      | str s => exact ⟨y, _, C, s, rfl, hpy, fun hn => q0 _ _ s1, fun hn t ht => q0 _ _ (s1.trans (same_new ht _))⟩
      | _ => cases hm
    | _ => cases hc

def endS (x : Str) (n : Int) : Str := cutS x (some (max 0 ((x.length : Int) - n))) none
theorem tl_end (x : Str) (n : Nat) : tl (endS x n) = (tl x).drop ((tl x).length - n) := by
  have hl : (tl x).length = x.length := tl_len x
  show ((x.cps.toList.drop (HT.sIx x.length 0 (some (max 0 ((x.length : Int) - n))))).take (HT.sIx x.length x.length none - HT.sIx x.length 0 (some (max 0 ((x.length : Int) - n))))).toArray.toList = _
  have e1 : HT.sIx x.length 0 (some (max 0 ((x.length : Int) - n))) = x.length - n := by
    simp only [HT.sIx]
    rw [if_neg (by omega)]; omega
  have e2 : HT.sIx x.length x.length none = x.length := rfl
  rw [e1, e2, hl]
  show (((tl x).drop (x.length - n)).take (x.length - (x.length - n))) = _
  exact List.take_of_length_le (by rw [List.length_drop]; omega)

/-! ### ending -/
theorem endS_len (x : Str) (n : Int) : (endS x n).length ≤ x.length := cutS_length _ _ _
theorem ok_ending (T : Top K mg) : FnOk P w K mg base CX0 1 T.a_ending T.d_ending ["text", "most"] (fun vs H Q _ => ∃ (x : Str) (n : Int), vs = [.str x, .int n] ∧ x.length ≤ 100000 ∧ Q (.str (endS x n)) H) := by

  refine T.F_ending.ok sc_ending (fun vs H Q E h => ?_) (fun cdv A outer s H vs Q E hr h => ?_)
  · obtain ⟨x, n, rfl, _⟩ := h
    rfl
  · obtain ⟨x, n, rfl, hx, q⟩ := h
    refine ⟨_, (pss_one (ps_ret (pe_slice sl_str (pv 0) (po_some (pe_callB (call_max2 rfl) (by rfl) T.z_max (by decide +kernel) (pa_cons pe_int (pa_cons (pe_op op_sub (pe_callB call_len_str (by rfl) T.z_len (by decide +kernel) (pa_cons (pv 0) pa_nil)) (pv 1)) pa_nil)))) po_none))), ?_⟩
    have hst : start ["text", "most"] [.str x, .int n] = [some (.str x), some (.int n)] := rfl
    rw [hst]
    walk_at "rd"
    have e : (if (x.length : Int) - n > 0 then (x.length : Int) - n else 0) = max 0 ((x.length : Int) - n) := by split <;> omega
    rw [e]
    exact ⟨sz_of hx, x, rfl, sz_of hx, q⟩

/-! ### last_letters -/
def puts (l : List Nat) : List Nat := l.filter (fun c => decide (c ≠ 45))
theorem puts_app (a b : List Nat) : puts (a ++ b) = puts a ++ puts b := List.filter_append a b
theorem puts_rep (n : Nat) (a : List Nat) : puts (List.replicate n a).flatten = (List.replicate n (puts a)).flatten := by
  induction n with
  | zero => rfl
  | succ n ih => rw [List.replicate_succ, List.flatten_cons, puts_app, ih, List.replicate_succ, List.flatten_cons]
theorem ceil_nat {m k : Nat} (hk : 0 < k) : -(-(m : Int) / (k : Int)) = (((m + (k - 1)) / k : Nat) : Int) := by
  have d := Nat.div_add_mod (m + (k - 1)) k
  have e := Nat.mod_lt (m + (k - 1)) hk
  generalize (m + (k - 1)) / k = c at *
  have hc : (k : Int) * (c : Int) = ((k * c : Nat) : Int) := by rw [Int.natCast_mul]
  have u := (Int.ediv_emod_unique (a := -(m : Int)) (b := (k : Int)) (r := (k : Int) * c - m) (q := -(c : Int)) (by omega)).mpr ⟨by rw [Int.mul_neg]; omega, by omega, by omega⟩
  rw [u.1, Int.neg_neg]
def sp_ll (n : Nat) : Sp := fun vs H Q _ => ∃ (p : Addr) (ps : Parts) (m : Nat), vs = [.ref p, .int (m : Int)] ∧ PartsAt H p ps ∧ ps.dep < n ∧ n ≤ 21 ∧ ps.ok ∧ ps.vol ≤ 100000 ∧ m ≤ 4000 ∧ ∀ H1, Same H H1 → Q (.str ⟨(lastN m (puts ps.den)).toArray⟩) H1
def sp_llp (n : Nat) : Sp := fun vs H Q _ => ∃ (x : V) (ps : Parts) (m : Nat), vs = [x, .int (m : Int)] ∧ PVs H [x] ps ∧ ps.dep ≤ n ∧ n ≤ 21 ∧ ps.ok ∧ ps.vol ≤ 100000 ∧ m ≤ 4000 ∧ ∀ H1, Same H H1 → Q (.str ⟨(lastN m (puts ps.den)).toArray⟩) H1
theorem ok_llp_of (T : Top K mg) (n : Nat) (G_last_letters : FnOkN 343 P w K mg base CX0 (2 * n + 1) T.a_last_letters T.d_last_letters ["parts", "most"] (sp_ll n)) :
    FnOkN 343 P w K mg base CX0 (2 * n + 2) T.a_last_letters_of_part T.d_last_letters_of_part ["part", "most"] (sp_llp n) := by
  have G_ending := ok_ending (w := w) (base := base) T
  refine funN T.F_last_letters_of_part sc_last_letters_of_part (fun vs H Q E h => ?_) (fun cdv A outer s H vs Q E hr h => ?_)
  · obtain ⟨x, ps, m, rfl, _⟩ := h
    rfl
  · obtain ⟨x, ps, m, rfl, hpv, hd, hn, hok, hl, hm, q⟩ := h
    refine ⟨_, (pssn_cons (psn_if (ptn_of (pt_val (pe_callB call_isi (by rfl) T.z_isinstance (by decide +kernel) (pa_cons (pv 0) (pa_cons (pe_bltn (v := .ty "str") (by rfl) T.z_str (by decide +kernel) rfl) pa_nil))))) (pssn_one (psn_ret (pen_call (FnOkN.of G_ending) (hr.mono (by first | decide | omega)) rfl T.m_ending T.F_ending.kp T.b_ending .nil pass0 (pan_cons (pen_repl (by rfl) T.c_TAKE (Nat.ne_of_gt T.w_TAKE.1) T.w_TAKE.2 (pen_of (pv 0))) (pan_of (pa_cons (pv 1) pa_nil)))))) (pssn_of pss_nil)) (pssn_cons (psn_of (ps_asg (pv 0) (pg_tup (by rfl) (pgs_cons (pg_name (i := 2) sc_last_letters_of_part.nd rfl (Or.inl rfl)) (pgs_cons (pg_name (i := 3) sc_last_letters_of_part.nd rfl (Or.inl rfl)) pgs_nil))))) (pssn_cons (psn_set (i := 4) sc_last_letters_of_part.nd rfl (Or.inl rfl) (pen_call G_last_letters (hr.mono (by first | decide | omega)) rfl T.m_last_letters T.F_last_letters.kp T.b_last_letters .nil pass0 (pan_of (pa_cons (pv 2) (pa_cons (pv 1) pa_nil))))) (pssn_of (pss_cons (ps_if (pt_cmpR op_eq (pv 4) pe_str (nomark _)) (pss_one (ps_ret pe_str)) pss_nil)
      (pss_cons (ps_set (i := 5) sc_last_letters_of_part.nd rfl (Or.inl rfl) (pe_callB (call_min2 rfl) (by rfl) T.z_min (by decide +kernel) (pa_cons (pv 3) (pa_cons (pe_un un_neg (pe_op op_fdiv (pe_un un_neg (pv 1)) (pe_callB call_len_str (by rfl) T.z_len (by decide +kernel) (pa_cons (pv 4) pa_nil)))) pa_nil))))
      (pss_one (ps_ret (pe_call G_ending (hr.mono (by first | decide | omega)) rfl T.m_ending T.F_ending.kp T.b_ending .nil pass0 (pa_cons (pe_op op_rep_str (pv 4) (pv 5)) (pa_cons (pv 1) pa_nil))))))))))), ?_⟩
    have hst : start ["part", "most", "body", "count", "letters", "rounds"] [x, .int (m : Int)] = [some x, some (.int (m : Int)), none, none, none, none] := rfl
    rw [hst]
    walk_at "rd"
    cases hpv with
    | seq pr =>
      rename_i s0 r0
      cases pr
      rw [Parts.den, Parts.den, List.append_nil] at q
      rw [Parts.vol, Parts.vol] at hl
      have hs0 : (tl s0).length = s0.length := tl_len s0
      have e0 : (Str.ofString "").length = 0 := by decide +kernel
      have er : tl (Txt.replace s0 (Str.ofString "-") (Str.ofString "")) = puts (tl s0) := replace_one s0
      have hr : (Txt.replace s0 (Str.ofString "-") (Str.ofString "")).length ≤ 100000 := by
        rw [← tl_len, er]
        exact Nat.le_trans (List.length_filter_le _ _) (by omega)
      refine isi_str (.str _ (by omega)) ?_
      simp only [tStr]
      walk_at "rd"
      have ez : endS (Txt.replace s0 (Str.ofString "-") (Str.ofString "")) (m : Int) = ⟨(lastN m (puts (tl s0))).toArray⟩ := tl_inj (by rw [tl_end, er]; rfl)
      refine ⟨_, rfl, s0, rfl, by rw [e0]; omega, _, rfl, hr, ?_⟩
      rw [ez]
      exact q H (fun _ _ h => h)
    | rep h1 h2 h3 hb pr =>
      rename_i q0 p0 n0 vb b0 r0
      cases pr
      rw [Parts.den, Parts.den, List.append_nil, puts_rep] at q
      rw [Parts.dep, Parts.dep] at hd
      rw [Parts.vol, Parts.vol] at hl
      refine isi_str (kd_tup h1) ?_
      simp only [tStr]
      walk_at "rd"
      refine ⟨[.ref p0, .int n0], SqT.of h1, rfl, ?_⟩
      simp only [gCons, gNil]
      walk_at "rd"
      simp only [sp_ll]
      refine ⟨p0, b0, m, rfl, ⟨vb, h2, h3, hb⟩, by omega, by omega, hok.1, by omega, hm, fun H1 s1 => ?_⟩
      walk_at "rd"
      have lz := lastN_len m (puts b0.den)
      have ez : (⟨(lastN m (puts b0.den)).toArray⟩ : Str).length = (lastN m (puts b0.den)).length := by rw [← tl_len]
      have e0 : (Str.ofString "") = (⟨#[]⟩ : Str) := by decide +kernel
      by_cases he : lastN m (puts b0.den) = []
      · have hq : lastN m (List.replicate n0 (puts b0.den)).flatten = [] := by
          rw [he, List.length_nil] at lz
          rcases Nat.eq_zero_or_pos m with z | z
          · rw [z, lastN_zero]
          · have : puts b0.den = [] := List.eq_nil_of_length_eq_zero (by omega)
            rw [this, show (List.replicate n0 ([] : List Nat)).flatten = [] from by simp]
            exact lastN_all (Nat.zero_le _)
        rw [he, e0, decide_eq_true rfl, if_pos rfl]
        have := q H1 s1
        rw [hq] at this
        exact this
      · rw [decide_eq_false (fun e => he (by rw [e0] at e; injection e with e; simpa using e)), if_neg (by decide), ez]
        have hpos : 0 < (lastN m (puts b0.den)).length := List.length_pos_iff.mpr he
        rw [ceil_nat hpos]
        have hdm := Nat.div_add_mod (m + ((lastN m (puts b0.den)).length - 1)) (lastN m (puts b0.den)).length
        have hdl : (m + ((lastN m (puts b0.den)).length - 1)) / (lastN m (puts b0.den)).length ≤ m + ((lastN m (puts b0.den)).length - 1) := Nat.div_le_self _ _
        obtain ⟨r, hr⟩ : ∃ r, r = min n0 ((m + ((lastN m (puts b0.den)).length - 1)) / (lastN m (puts b0.den)).length) := ⟨_, rfl⟩
        have hmul : (lastN m (puts b0.den)).length * r ≤ 8000 := Nat.le_trans (Nat.mul_le_mul_left _ (by omega : r ≤ (m + ((lastN m (puts b0.den)).length - 1)) / (lastN m (puts b0.den)).length)) (by omega)
        have hi : (if (((m + ((lastN m (puts b0.den)).length - 1)) / (lastN m (puts b0.den)).length : Nat) : Int) < (n0 : Int) then (((m + ((lastN m (puts b0.den)).length - 1)) / (lastN m (puts b0.den)).length : Nat) : Int) else (n0 : Int)) = (r : Int) := by
          rw [hr]
          split <;> omega
        rw [hi]
        have hs : (srep (⟨(lastN m (puts b0.den)).toArray⟩ : Str) r).length ≤ 100000 := by
          rw [← tl_len, tl_srep, len_flat_rep, Nat.mul_comm]
          exact Nat.le_trans hmul (by decide)
        refine ⟨sz_of (by omega), ?_, ⟨(lastN m (puts b0.den)).toArray⟩, (r : Int), rfl, rfl, by omega, ?_, ?_, _, rfl, hs, ?_⟩
        · first | (constructor <;> omega) | (unfold CDiv; omega) | (unfold CDiv; refine ⟨?_, ?_⟩ <;> omega)
        · exact Int.lt_of_le_of_lt (by omega : (r : Int) ≤ 8000) (by decide)
        · rw [ez, Int.toNat_natCast]
          exact Nat.le_trans hmul (by decide)
        · have eq : endS (srep (⟨(lastN m (puts b0.den)).toArray⟩ : Str) (r : Int).toNat) (m : Int) = ⟨(lastN m (List.replicate n0 (puts b0.den)).flatten).toArray⟩ := tl_inj (by
            rw [tl_end, Int.toNat_natCast, tl_srep]
            exact lastN_part hpos hr)
          rw [Int.toNat_natCast] at eq ⊢
          rw [eq]
          exact q H1 s1
theorem PVs.unsnoc {H : Hp} {x : V} : ∀ {r : List V} {ps : Parts}, PVs H (r ++ [x]) ps → ∃ a b, PVs H r a ∧ PVs H [x] b ∧ ps.den = a.den ++ b.den ∧ a.dep ≤ ps.dep ∧ b.dep ≤ ps.dep ∧ a.vol ≤ ps.vol ∧ b.vol ≤ ps.vol ∧ (ps.ok → a.ok ∧ b.ok)
  | [], ps, h => ⟨.nil, ps, .nil, h, rfl, Nat.zero_le _, Nat.le_refl _, Nat.zero_le _, Nat.le_refl _, fun h => ⟨trivial, h⟩⟩
  | y :: r, ps, h => by
    cases h with
    | @seq s _ r0 pr =>
      obtain ⟨a, b, h1, h2, h3, h4, h5, h6, h7, h8⟩ := PVs.unsnoc pr
      exact ⟨.seq (tl s) a, b, .seq h1, h2, by rw [Parts.den, Parts.den, h3, List.append_assoc], h4, h5, by rw [Parts.vol, Parts.vol]; omega, by rw [Parts.vol]; omega, fun h => ⟨⟨h.1, h.2.1, (h8 h.2.2).1⟩, (h8 h.2.2).2⟩⟩
    | @rep q p n vb vs b0 r0 g1 g2 g3 hb pr =>
      obtain ⟨a, b, h1, h2, h3, h4, h5, h6, h7, h8⟩ := PVs.unsnoc pr
      exact ⟨.rep b0 n a, b, .rep g1 g2 g3 hb h1, h2, by rw [Parts.den, Parts.den, h3, List.append_assoc], by simp only [Parts.dep]; omega, by simp only [Parts.dep]; omega, by simp only [Parts.vol]; omega, by simp only [Parts.vol]; omega, fun h => ⟨⟨h.1, h.2.1, (h8 h.2.2).1⟩, (h8 h.2.2).2⟩⟩
theorem rec_ll (T : Top K mg) : ∀ n : Nat, FnOkN 343 P w K mg base CX0 (2 * n + 1) T.a_last_letters T.d_last_letters ["parts", "most"] (sp_ll n)
  | 0 => by
    refine funN T.F_last_letters sc_last_letters (fun vs H Q E h => ?_) (fun cdv A outer s H vs Q E hr h => ?_)
    · obtain ⟨p, ps, m, rfl, _⟩ := h
      rfl
    · obtain ⟨p, ps, m, rfl, _, h, _⟩ := h
      exact absurd h (Nat.not_lt_zero _)
  | n + 1 => by
    have G_last_letters_of_part := ok_llp_of T n (rec_ll T n)
    refine funN T.F_last_letters sc_last_letters (fun vs H Q E h => ?_) (fun cdv A outer s H vs Q E hr h => ?_)
    · obtain ⟨p, ps, m, rfl, _⟩ := h
      rfl
    · obtain ⟨p, ps, m, rfl, ⟨xs, hp, hxs, hvs⟩, hd, hn, hok, hl, hm, q⟩ := h
      refine ⟨_, (pssn_cons (psn_of (ps_set (i := 2) sc_last_letters.nd rfl (Or.inl rfl) pe_str)) (pssn_cons (psn_for PassesOwn.never rfl (pi_list (pe_revL (pv 0))) (pg_name (i := 3) sc_last_letters.nd rfl (Or.inl rfl)) (pssn_one (psn_set (i := 2) sc_last_letters.nd rfl (Or.inl rfl) (pen_op op_add_str (pen_call G_last_letters_of_part (hr.mono (by first | decide | omega)) rfl T.m_last_letters_of_part T.F_last_letters_of_part.kp T.b_last_letters_of_part .nil pass0 (pan_of (pa_cons (pv 3) (pa_cons (pe_op op_sub (pv 1) (pe_callB call_len_str (by rfl) T.z_len (by decide +kernel) (pa_cons (pv 2) pa_nil))) pa_nil)))) (pen_of (pv 2)))))) (pssn_of (pss_one (ps_ret (pv 2)))))), ?_⟩
      have hst : start ["parts", "most", "found", "part"] [.ref p, .int (m : Int)] = [some (.ref p), some (.int (m : Int)), none, none] := rfl
      rw [hst]
      walk_at "rd"
      have e0 : (Str.ofString "") = (⟨#[]⟩ : Str) := by decide +kernel
      refine forL fun R kR => ?_
      simp only [tRevL]
      walk_at "rd"
      refine ⟨xs, SqL.of hp, fun p2 hp2 => ?_⟩
      refine kR p2 xs.reverse (fun i σ H1 => Same H H1 ∧ H1 p2 = some (.lst xs.reverse) ∧ ∃ (rest : Parts) (done : List Nat) (x3 : Option V), σ = [some (.ref p), some (.int m), some (.str ⟨(lastN m (puts done)).toArray⟩), x3] ∧ PVs H (xs.take (xs.length - i)) rest ∧ ps.den = rest.den ++ done ∧ rest.dep < n + 1 ∧ rest.ok ∧ rest.vol ≤ 100000) _ (SqL.of upd_same) ?_ ?_ ?_ ?_
      · refine ⟨same_new hp2 _, upd_same, ps, [], none, ?_, by rw [Nat.sub_zero, List.take_length]; exact hvs, by rw [List.append_nil], hd, hok, hl⟩
        rw [e0, show lastN m (puts []) = [] from by unfold puts lastN; simp]
      · exact fun i σ H1 _ h => SqL.of h.2.1
      · rintro i x σ H1 hx ⟨s1, hp3, rest, done, x3, rfl, pvr, hden, hdr, hokr, hlr⟩
        have hi : i < xs.length := by have := (List.getElem?_eq_some_iff.mp hx).1; rw [List.length_reverse] at this; exact this
        have hx2 : xs[xs.length - 1 - i]? = some x := by rw [← List.getElem?_reverse hi]; exact hx
        have htk : xs.take (xs.length - i) = xs.take (xs.length - (i + 1)) ++ [x] := by
          rw [show xs.length - i = (xs.length - (i + 1)) + 1 from by omega, List.take_succ, show xs.length - (i + 1) = xs.length - 1 - i from by omega, hx2]; rfl
        rw [htk] at pvr
        obtain ⟨a, b, p1, p4, d1, d2, d3, d4, d5, d6⟩ := pvr.unsnoc
        have lz := lastN_len m (puts done)
        have ez : (⟨(lastN m (puts done)).toArray⟩ : Str).length = (lastN m (puts done)).length := by rw [← tl_len]
        have em : ((m : Int) - ((lastN m (puts done)).length : Int)) = ((m - (lastN m (puts done)).length : Nat) : Int) := by omega
        have lb := lastN_len (m - (lastN m (puts done)).length) (puts b.den)
        have eb : (⟨(lastN (m - (lastN m (puts done)).length) (puts b.den)).toArray⟩ : Str).length = (lastN (m - (lastN m (puts done)).length) (puts b.den)).length := by rw [← tl_len]
        have es : (⟨(lastN (m - (lastN m (puts done)).length) (puts b.den)).toArray⟩ : Str) ++ ⟨(lastN m (puts done)).toArray⟩ = ⟨(lastN m (puts (b.den ++ done))).toArray⟩ := tl_inj (by
          rw [tl_app, puts_app]; exact lastN_step m _ _)
        walk_at "rd"
        refine ⟨sz_of (by rw [ez]; omega), ?_⟩
        rw [ez, em]
        simp only [sp_llp]
        refine ⟨x, b, m - (lastN m (puts done)).length, rfl, p4.mono s1, by omega, by omega, (d6 hokr).2, by omega, by omega, fun H2 s2 => ?_⟩
        refine ⟨_, rfl, sz_of (by rw [eb]; omega), s1.trans s2, s2 _ _ hp3, a, b.den ++ done, ?_, ⟨_, rfl⟩, p1, by rw [hden, d1, List.append_assoc], by omega, (d6 hokr).1, by omega⟩
        exact es
      · rintro σ H1 ⟨s1, hp3, rest, done, x3, rfl, pvr, hden, hdr, hokr, hlr⟩
        walk_at "rd"
        rw [List.length_reverse, Nat.sub_self, List.take_zero] at pvr
        cases pvr
        rw [show ps.den = done from hden] at q
        exact q H1 s1
theorem ok_last_letters (T : Top K mg) : FnOkN 343 P w K mg base CX0 43 T.a_last_letters T.d_last_letters ["parts", "most"] (sp_ll 21) := rec_ll T 21

/-! ### a reader by descent, and the reader with a stack -/
theorem foldDigs_inj : ∀ (l l' : List Nat) (a a' : Nat), l.length = l'.length → NumText.AllDigits l → NumText.AllDigits l' → l.foldl (fun acc c => acc * 10 + (c - 48)) a = l'.foldl (fun acc c => acc * 10 + (c - 48)) a' → a = a' ∧ l = l'
  | [], [], a, a', _, _, _, h => ⟨h, rfl⟩
  | [], _ :: _, _, _, hl, _, _, _ => by cases hl
  | _ :: _, [], _, _, hl, _, _, _ => by cases hl
  | c :: l, c' :: l', a, a', hl, h1, h2, h => by
    rw [List.foldl_cons, List.foldl_cons] at h
    rw [List.length_cons, List.length_cons] at hl
    obtain ⟨g1, g2⟩ := foldDigs_inj l l' _ _ (by omega) (fun d hd => h1 d (List.mem_cons_of_mem _ hd)) (fun d hd => h2 d (List.mem_cons_of_mem _ hd)) h
    have k1 := h1 c List.mem_cons_self
    have k2 := h2 c' List.mem_cons_self
    refine ⟨by omega, ?_⟩
    rw [g2, show c = c' by omega]
theorem foldDigs_ge : ∀ (l : List Nat) (a : Nat), a * 10 ^ l.length ≤ l.foldl (fun acc c => acc * 10 + (c - 48)) a
  | [], a => by simp
  | c :: l, a => by
    have ih := foldDigs_ge l (a * 10 + (c - 48))
    rw [List.foldl_cons, List.length_cons, Nat.pow_succ]
    refine Nat.le_trans ?_ ih
    rw [Nat.mul_comm (10 ^ l.length) 10, ← Nat.mul_assoc]
    exact Nat.mul_le_mul_right _ (by omega)
theorem digs_len_ge {n k : Nat} (hk : 0 < k) (h : 10 ^ k ≤ n) : k < (digs n).length := by
  rcases Nat.lt_or_ge k (digs n).length with h1 | h1
  · exact h1
  · unfold digs at h1
    rw [List.length_map] at h1
    have := (Nat.length_toDigits_le_iff (b := 10) (by decide) hk).mp h1
    omega
/-- what the law's own reader asks of the digits -/
def badDig (ds : List Nat) : Bool := decide (ds = []) || (decide (ds.head? = some 48) && decide (1 < ds.length)) || decide (31 < ds.length) || decide (10 ^ 30 < NumText.digitsVal ds)
theorem digs_back {ds : List Nat} (h : ds.all isDig = true) (h0 : ds ≠ []) : (digs (NumText.digitsVal ds) = ds) ↔ ¬ (ds.head? = some 48 ∧ 1 < ds.length) := by
  have hA : NumText.AllDigits ds := digs_alldig h
  constructor
  · rintro e ⟨h1, h2⟩
    cases ds with
    | nil => exact h0 rfl
    | cons c l =>
      rw [List.head?_cons] at h1
      cases h1
      rw [List.length_cons] at h2
      have lt : NumText.digitsVal (48 :: l) < 10 ^ l.length := digitsVal_lt l (fun d hd => hA d (List.mem_cons_of_mem _ hd)) |> fun z => by
        have : NumText.digitsVal (48 :: l) = NumText.digitsVal l := rfl
        rw [this]; exact z
      have := digs_lt (k := l.length) (by omega) lt
      rw [e, List.length_cons] at this
      omega
  · intro hn
    have lt := digitsVal_lt ds hA
    cases ds with
    | nil => exact absurd rfl h0
    | cons c l =>
      have hdA : NumText.AllDigits (digs (NumText.digitsVal (c :: l))) := digs_alldig (digs_dig _)
      have hlen : (digs (NumText.digitsVal (c :: l))).length = (c :: l).length := by
        have u1 := digs_lt (k := (c :: l).length) (by rw [List.length_cons]; omega) lt
        by_cases hl : l = []
        · subst hl
          have u2 : (digs (NumText.digitsVal [c])).length ≠ 0 := fun e => digs_ne _ (List.eq_nil_of_length_eq_zero e)
          simp only [List.length_cons, List.length_nil] at u1 ⊢
          omega
        · have l0 : 0 < l.length := Nat.pos_of_ne_zero fun e => hl (List.eq_nil_of_length_eq_zero e)
          have hc : c ≠ 48 := fun e => hn ⟨by rw [e]; rfl, by rw [List.length_cons]; omega⟩
          have kc := hA c List.mem_cons_self
          have ge : 10 ^ l.length ≤ NumText.digitsVal (c :: l) := by
            have := foldDigs_ge l (0 * 10 + (c - 48))
            refine Nat.le_trans ?_ this
            calc 10 ^ l.length = 1 * 10 ^ l.length := (Nat.one_mul _).symm
              _ ≤ _ := Nat.mul_le_mul_right _ (by omega)
          have u2 := digs_len_ge (k := l.length) l0 ge
          rw [List.length_cons] at u1 ⊢
          omega
      exact (foldDigs_inj _ _ 0 0 hlen hdA hA (digs_val (NumText.digitsVal (c :: l)))).2
theorem rcount_bad {ds : List Nat} (h : ds.all isDig = true) : (rcount ds).isSome = !badDig ds := by
  unfold rcount badDig
  by_cases h0 : ds = []
  · subst h0; rfl
  have hl : ds.length ≠ 0 := fun e => h0 (List.eq_nil_of_length_eq_zero e)
  rw [decide_eq_false h0, Bool.false_or]
  by_cases h31 : 31 < ds.length
  · rw [if_pos (.inr h31), decide_eq_true h31, Bool.or_true, Bool.true_or]; rfl
  rw [if_neg (by omega), decide_eq_false h31, Bool.or_false]
  have e := digs_back h h0
  by_cases hb : ds.head? = some 48 ∧ 1 < ds.length
  · rw [if_neg (fun x => (e.mp x.2) hb), decide_eq_true hb.1, decide_eq_true hb.2]; rfl
  · have hb' : (decide (ds.head? = some 48) && decide (1 < ds.length)) = false := by
      rw [← Bool.decide_and]; exact decide_eq_false hb
    rw [hb', Bool.false_or]
    by_cases hc : 10 ^ 30 < NumText.digitsVal ds
    · rw [decide_eq_true hc, if_neg (fun x => absurd x.1 (by omega))]; rfl
    · rw [decide_eq_false hc, if_pos ⟨by omega, e.mpr hb⟩]; rfl
/-- the rest behind what can be read at depth d: nothing, or from a closing sign on -/
def lr : Nat → Nat → List Nat → Option (List Nat)
  | 0, _, _ => none
  | _ + 1, _, [] => some []
  | k + 1, d, c :: r => if c = 41 then some (c :: r) else if isStep c then lr k d r else if c = 40 ∧ d < 20 then
      match lr k (d + 1) r with
      | some (_ :: r') => if (rcount (r'.takeWhile isDig)).isSome then lr k d (r'.dropWhile isDig) else none
      | _ => none
    else none
theorem lr_len : ∀ {k d l r}, lr k d l = some r → r.length ≤ l.length ∧ (r = [] ∨ ∃ r', r = 41 :: r')
  | 0, _, _, _, h => by cases h
  | _ + 1, _, [], _, h => by rw [lr] at h; cases h; exact ⟨Nat.le_refl _, .inl rfl⟩
  | k + 1, d, c :: l, r, h => by
    rw [lr] at h
    split at h
    · rename_i hc
      cases h; exact ⟨Nat.le_refl _, .inr ⟨l, by rw [hc]⟩⟩
    · split at h
      · have := lr_len h
        exact ⟨by rw [List.length_cons]; omega, this.2⟩
      · split at h
        · split at h
          · rename_i x r' e
            have h1 := (lr_len e).1
            split at h
            · have h2 := lr_len h
              have h3 := len_dropWhile isDig r'
              rw [List.length_cons] at h1
              exact ⟨by rw [List.length_cons]; omega, h2.2⟩
            · cases h
          · cases h
        · cases h
theorem lr_fuel : ∀ {k k' d l}, l.length < k → l.length < k' → lr k d l = lr k' d l
  | 0, _, _, _, h, _ => absurd h (Nat.not_lt_zero _)
  | _ + 1, 0, _, _, _, h => absurd h (Nat.not_lt_zero _)
  | k + 1, k' + 1, d, [], _, _ => by rw [lr, lr]
  | k + 1, k' + 1, d, c :: l, h1, h2 => by
    rw [List.length_cons] at h1 h2
    rw [lr, lr]
    split
    · rfl
    · split
      · exact lr_fuel (by omega) (by omega)
      · split
        · rw [lr_fuel (k := k) (k' := k') (d := d + 1) (l := l) (by omega) (by omega)]
          cases e : lr k' (d + 1) l with
          | none => rfl
          | some r0 =>
            cases r0 with
            | nil => rfl
            | cons x r' =>
              have h3 := (lr_len e).1
              have h4 := len_dropWhile isDig r'
              rw [List.length_cons] at h3
              show (if _ then _ else _) = (if _ then _ else _)
              rw [lr_fuel (k := k) (k' := k') (d := d) (l := r'.dropWhile isDig) (by omega) (by omega)]
        · rfl
theorem lr_skip {d : Nat} : ∀ {l : List Nat} {k k' : Nat}, l.length < k → l.length < k' → lr k d l = lr k' d (l.dropWhile isStep)
  | [], k, k', h1, h2 => lr_fuel h1 h2
  | c :: l, 0, _, h1, _ => absurd h1 (Nat.not_lt_zero _)
  | c :: l, k + 1, k', h1, h2 => by
    rw [List.length_cons] at h1 h2
    rw [List.dropWhile_cons]
    by_cases hc : isStep c = true
    · rw [if_pos hc, lr, if_neg (fun e => by rw [e] at hc; revert hc; decide), if_pos hc]
      exact lr_skip (by omega) (by omega)
    · rw [if_neg hc]
      exact lr_fuel (by rw [List.length_cons]; omega) (by rw [List.length_cons]; omega)
theorem lr_rp : ∀ (k0 : Nat) {l : List Nat} {d : Nat} {os : List Parts} {ps : Parts} {k : Nat}, l.length < k0 → l.length < k → os.length = d → d ≤ 20 →
    (lr k0 d l = none → rpF k os ps l = none) ∧ (∀ rest, lr k0 d l = some rest → ∃ k' ps', rpF k os ps l = rpF k' os ps' rest ∧ rest.length < k')
  | 0, _, _, _, _, _, h, _, _, _ => absurd h (Nat.not_lt_zero _)
  | _ + 1, _, _, _, _, 0, _, h, _, _ => absurd h (Nat.not_lt_zero _)
  | k0 + 1, [], d, os, ps, k + 1, h1, h2, h3, h4 => ⟨(fun h => by rw [lr] at h; cases h), (fun rest h => by rw [lr] at h; cases h; exact ⟨_, _, rfl, h2⟩)⟩
  | k0 + 1, c :: r, d, os, ps, k + 1, h1, h2, h3, h4 => by
    by_cases h41 : c = 41
    · subst h41
      refine ⟨fun h => ?_, fun rest h => ?_⟩
      · rw [lr, if_pos rfl] at h; cases h
      · rw [lr, if_pos rfl] at h; cases h; exact ⟨_, _, rfl, h2⟩
    rw [List.length_cons] at h1 h2
    have e1 : lr (k0 + 1) d (c :: r) = if isStep c then lr k0 d r else if c = 40 ∧ d < 20 then
      match lr k0 (d + 1) r with
      | some (_ :: r') => if (rcount (r'.takeWhile isDig)).isSome then lr k0 d (r'.dropWhile isDig) else none
      | _ => none
    else none := by rw [lr, if_neg h41]
    rw [e1]
    by_cases hc : isStep c = true
    · have h40 : c ≠ 40 := fun e => by rw [e] at hc; revert hc; decide
      have es : rpF (k + 1) os ps (c :: r) = rpF k os (ps.app (.seq ((c :: r).takeWhile isStep) .nil)) (r.dropWhile isStep) := by
        have : stp os ps c r = some (os, ps.app (.seq ((c :: r).takeWhile isStep) .nil), (c :: r).dropWhile isStep) := by
          unfold stp
          rw [if_neg h40, if_neg h41, if_pos hc, if_pos (by omega)]
        rw [rpF, this, List.dropWhile_cons, if_pos hc]
      have hd := len_dropWhile isStep r
      rw [if_pos hc, es, lr_skip (k' := k0) (by omega) (by omega)]
      exact lr_rp k0 (by omega) (by omega) h3 h4
    · rw [if_neg hc]
      by_cases h40 : c = 40 ∧ d < 20
      · rw [if_pos h40]
        obtain ⟨rfl, h20⟩ := h40
        have es : rpF (k + 1) os ps (40 :: r) = rpF k (ps :: os) .nil r := by
          have : stp os ps 40 r = some (ps :: os, .nil, r) := by
            unfold stp
            rw [if_pos rfl, if_pos (by omega)]
          rw [rpF, this]
        rw [es]
        obtain ⟨g1, g2⟩ := lr_rp k0 (l := r) (d := d + 1) (os := ps :: os) (ps := .nil) (k := k) (by omega) (by omega) (by rw [List.length_cons]; omega) (by omega)
        cases e : lr k0 (d + 1) r with
        | none => exact ⟨fun _ => g1 e, fun rest h => by cases h⟩
        | some r0 =>
          obtain ⟨k', ps', g3, g4⟩ := g2 _ e
          rw [g3]
          cases r0 with
          | nil =>
            refine ⟨fun _ => ?_, fun rest h => by cases h⟩
            cases k' with
            | zero => rfl
            | succ k' => rw [rpF, if_neg (by rw [List.length_cons]; omega)]
          | cons x r' =>
            have g5 := lr_len e
            obtain ⟨q, hq⟩ : ∃ q, x :: r' = 41 :: q := by
              rcases g5.2 with h | h
              · cases h
              · exact h
            injection hq with hx hq
            subst hx hq
            obtain ⟨k'', rfl⟩ : ∃ k'', k' = k'' + 1 := ⟨k' - 1, by omega⟩
            have h5 := len_dropWhile isDig r'
            have h6 := g5.1
            rw [List.length_cons] at h6 g4
            show ((if (rcount (r'.takeWhile isDig)).isSome then lr k0 d (r'.dropWhile isDig) else none) = none → _) ∧ (∀ rest, (if (rcount (r'.takeWhile isDig)).isSome then lr k0 d (r'.dropWhile isDig) else none) = some rest → _)
            cases hr : rcount (r'.takeWhile isDig) with
            | none =>
              refine ⟨fun _ => ?_, fun rest h => by cases h⟩
              have : stp (ps :: os) ps' 41 r' = none := by
                unfold stp
                rw [if_neg (by decide), if_pos rfl, hr]
              rw [rpF, this]
            | some n =>
              have : stp (ps :: os) ps' 41 r' = some (os, ps.app (.rep ps' n .nil), r'.dropWhile isDig) := by
                unfold stp
                rw [if_neg (by decide), if_pos rfl, hr]
                show (if os.length ≤ 20 then _ else _) = _
                rw [if_pos (by omega)]
              rw [rpF, this]
              rw [if_pos (show (some n).isSome = true from rfl)]
              exact lr_rp k0 (by omega) (by omega) h3 h4
      · rw [if_neg h40]
        refine ⟨fun _ => ?_, fun rest h => by cases h⟩
        have : stp os ps c r = none := by
          unfold stp
          by_cases hc4 : c = 40
          · rw [if_pos hc4, if_neg (by omega)]
          · rw [if_neg hc4, if_neg h41, if_neg hc]
        rw [rpF, this]
theorem lr_rpt (t : List Nat) : (rpt t).isSome = decide (lr (t.length + 1) 0 t = some []) := by
  obtain ⟨g1, g2⟩ := lr_rp (t.length + 1) (l := t) (d := 0) (os := []) (ps := .nil) (k := t.length + 1) (by omega) (by omega) rfl (by omega)
  unfold rpt
  cases e : lr (t.length + 1) 0 t with
  | none => rw [g1 e]; rfl
  | some r =>
    obtain ⟨k', ps', g3, g4⟩ := g2 _ e
    rw [g3]
    obtain ⟨k'', rfl⟩ : ∃ k'', k' = k'' + 1 := ⟨k' - 1, by omega⟩
    rcases (lr_len e).2 with rfl | ⟨q, rfl⟩
    · rw [rpF, decide_eq_true rfl]; rfl
    · have : stp [] ps' 41 q = none := by
        unfold stp
        rw [if_neg (by decide), if_pos rfl]
        cases rcount (q.takeWhile isDig) <;> rfl
      rw [rpF, this, decide_eq_false (by intro h; cases h)]; rfl

/-! ### the law's reader walked -/
def lrV (t : Str) : Option (List Nat) → V
  | none => .non
  | some r => .int ((t.length - r.length : Nat) : Int)
def lrT (t : Str) (d a : Nat) : Option (List Nat) := lr (t.length + 1) d ((tl t).drop a)
theorem lrT_end {t : Str} {d a : Nat} (h : t.length ≤ a) : lrT t d a = some [] := by
  unfold lrT
  rw [List.drop_eq_nil_of_le (by rw [tl_len]; exact h), lr]
theorem lrT_close {t : Str} {d a : Nat} (h : (tl t)[a]? = some 41) : lrT t d a = some ((tl t).drop a) := by
  unfold lrT
  obtain ⟨ha, e⟩ := List.getElem?_eq_some_iff.mp h
  rw [List.drop_eq_getElem_cons ha, e, lr, if_pos rfl]
theorem drop_len {t : Str} {a : Nat} : ((tl t).drop a).length = t.length - a := by rw [List.length_drop, tl_len]
theorem lrT_step {t : Str} {d a c : Nat} (h : (tl t)[a]? = some c) (hc : isStep c = true) : lrT t d a = lrT t d (a + 1) := by
  unfold lrT
  obtain ⟨ha, e⟩ := List.getElem?_eq_some_iff.mp h
  rw [tl_len] at ha
  rw [List.drop_eq_getElem_cons (by rw [tl_len]; exact ha), e, lr, if_neg (fun e => by rw [e] at hc; revert hc; decide), if_pos hc]
  exact lr_fuel (by rw [drop_len]; omega) (by rw [drop_len]; omega)
theorem lrT_open {t : Str} {d a : Nat} (h : (tl t)[a]? = some 40) (hd : d < 20) : lrT t d a = match lrT t (d + 1) (a + 1) with
    | some (_ :: r') => if (rcount (r'.takeWhile isDig)).isSome then lr (t.length + 1) d (r'.dropWhile isDig) else none
    | _ => none := by
  unfold lrT
  obtain ⟨ha, e⟩ := List.getElem?_eq_some_iff.mp h
  rw [tl_len] at ha
  rw [List.drop_eq_getElem_cons (by rw [tl_len]; exact ha), e, lr, if_neg (by decide), if_neg (by decide), if_pos ⟨rfl, hd⟩]
  rw [lr_fuel (k := t.length) (k' := t.length + 1) (by rw [drop_len]; omega) (by rw [drop_len]; omega)]
  cases e1 : lr (t.length + 1) (d + 1) ((tl t).drop (a + 1)) with
  | none => rfl
  | some r =>
    cases r with
    | nil => rfl
    | cons x r' =>
      have g := (lr_len e1).1
      rw [drop_len, List.length_cons] at g
      have g2 := len_dropWhile isDig r'
      show (if _ then _ else _) = (if _ then _ else _)
      rw [lr_fuel (k := t.length) (k' := t.length + 1) (by omega) (by omega)]
theorem lrT_other {t : Str} {d a c : Nat} (h : (tl t)[a]? = some c) (h1 : c ≠ 41) (h2 : isStep c = false) (h3 : ¬ (c = 40 ∧ d < 20)) : lrT t d a = none := by
  unfold lrT
  obtain ⟨ha, e⟩ := List.getElem?_eq_some_iff.mp h
  rw [List.drop_eq_getElem_cons ha, e, lr, if_neg h1, if_neg (by rw [h2]; decide), if_neg h3]
/-- what is left behind is an end of the text -/
theorem lrT_suffix {t : Str} : ∀ (k : Nat) {d : Nat} {l r : List Nat}, lr k d l = some r → ∃ p, l = p ++ r
  | 0, _, _, _, h => by cases h
  | _ + 1, _, [], _, h => by rw [lr] at h; cases h; exact ⟨[], rfl⟩
  | k + 1, d, c :: l, r, h => by
    rw [lr] at h
    split at h
    · cases h; exact ⟨[], rfl⟩
    · split at h
      · obtain ⟨p, e⟩ := lrT_suffix (t := t) k h
        exact ⟨c :: p, by rw [e]; rfl⟩
      · split at h
        · split at h
          · rename_i x r' e
            obtain ⟨p, e1⟩ := lrT_suffix (t := t) k e
            split at h
            · obtain ⟨p2, e2⟩ := lrT_suffix (t := t) k h
              have e3 := List.takeWhile_append_dropWhile (p := isDig) (l := r')
              refine ⟨c :: (p ++ x :: (r'.takeWhile isDig ++ p2)), ?_⟩
              rw [e1]
              simp only [List.cons_append, List.append_assoc]
              rw [← e2, e3]
            · cases h
          · cases h
        · cases h
theorem lrT_drop {t : Str} {d a : Nat} {r : List Nat} (h : lrT t d a = some r) : r = (tl t).drop (t.length - r.length) ∧ r.length ≤ t.length - a := by
  obtain ⟨p, e⟩ := lrT_suffix (t := t) _ h
  have hl := congrArg List.length e
  rw [drop_len, List.length_append] at hl
  refine ⟨?_, by omega⟩
  by_cases ha : a ≤ t.length
  · have e2 : (tl t).drop (t.length - r.length) = ((tl t).drop a).drop p.length := by rw [List.drop_drop]; congr 1; omega
    rw [e2, e, List.drop_left]
  · have r0 : r = [] := List.eq_nil_of_length_eq_zero (by omega)
    subst r0
    rw [List.drop_eq_nil_of_le (by rw [tl_len]; simp)]
theorem badDig_of {ds : List Nat} (h : ds = [] ∨ (ds.head? = some 48 ∧ 1 < ds.length) ∨ 31 < ds.length ∨ 10 ^ 30 < NumText.digitsVal ds) : badDig ds = true := by
  unfold badDig
  rw [Bool.or_eq_true, Bool.or_eq_true, Bool.or_eq_true, Bool.and_eq_true]
  simp only [decide_eq_true_eq]
  rcases h with h | h | h | h
  · exact .inl (.inl (.inl h))
  · exact .inl (.inl (.inr h))
  · exact .inl (.inr h)
  · exact .inr h
theorem badDig_not {ds : List Nat} (h1 : ds ≠ []) (h2 : ¬ (ds.head? = some 48 ∧ 1 < ds.length)) (h3 : ¬ 31 < ds.length) (h4 : ¬ 10 ^ 30 < NumText.digitsVal ds) : badDig ds = false := by
  cases hb : badDig ds with
  | false => rfl
  | true =>
    unfold badDig at hb
    rw [Bool.or_eq_true, Bool.or_eq_true, Bool.or_eq_true, Bool.and_eq_true] at hb
    simp only [decide_eq_true_eq] at hb
    rcases hb with ((h | h) | h) | h
    · exact absurd h h1
    · exact absurd h h2
    · exact absurd h h3
    · exact absurd h h4
def sp_rest (n : Nat) : Sp := fun vs H Q _ => ∃ (t : Str) (a d : Nat), vs = [.str t, .int (a : Int), .int (d : Int)] ∧ t.length ≤ 100000 ∧ a ≤ t.length ∧ d ≤ 20 ∧ 20 - d < n ∧ n ≤ 21 ∧ Q (lrV t (lrT t d a)) H
theorem rec_rest (T : Top K mg) : ∀ n : Nat, FnOk P w K mg base CX0 (n + 1) T.a__law_rest T.d__law_rest ["_law_text", "_law_at", "_law_depth"] (sp_rest n)
  | 0 => by
    refine T.F__law_rest.ok sc__law_rest (fun vs H Q E h => ?_) (fun cdv A outer s H vs Q E hr h => ?_)
    · obtain ⟨t, a, d, rfl, _⟩ := h
      rfl
    · obtain ⟨t, a, d, rfl, _, _, _, h, _⟩ := h
      exact absurd h (Nat.not_lt_zero _)
  | n + 1 => by
    have G__law_rest := rec_rest T n
    refine T.F__law_rest.ok sc__law_rest (fun vs H Q E h => ?_) (fun cdv A outer s H vs Q E hr h => ?_)
    · obtain ⟨t, a, d, rfl, _⟩ := h
      rfl
    · obtain ⟨t, a, d, rfl, ht, ha, hd, hdn, hn, q⟩ := h
      refine ⟨_, (pss_cons (ps_while PassesOwn.never (PW.pt (pw_and (pt_cmpR op_lt (pv 1) (pe_callB call_len_str (by rfl) T.z_len (by decide +kernel) (pa_cons (pv 0) pa_nil)) (nomark _)) (pw_and1 (pt_cmpR op_ne (pe_ix ix_str (pv 0) (pv 1) (fun _ _ => rfl)) pe_str (nomark _))))) (pss_one (ps_if (pt_cmpR op_in_sign (pe_ix ix_str (pv 0) (pv 1) (fun _ _ => rfl)) pe_str (by rfl)) (pss_one (ps_set (i := 1) sc__law_rest.nd rfl (Or.inl rfl) (pe_op op_add (pv 1) pe_int))) (pss_one (ps_if (PW.pt (pw_and (pt_cmpR op_eq (pe_ix ix_str (pv 0) (pv 1) (fun _ _ => rfl)) pe_str (nomark _)) (pw_and1 (pt_cmpR op_lt (pv 2) pe_int (nomark _))))) (pss_cons (ps_set (i := 1) sc__law_rest.nd rfl (Or.inl rfl) (pe_call G__law_rest (hr.mono (by first | decide | omega)) rfl T.m__law_rest T.F__law_rest.kp T.b__law_rest .nil pass0 (pa_cons (pv 0) (pa_cons (pe_op op_add (pv 1) pe_int) (pa_cons (pe_op op_add (pv 2) pe_int) pa_nil)))))
      (pss_cons (ps_if (PW.pt (pw_or (pt_cmpR op_isN (pv 1) pe_non (nomark _)) (pw_or1 (pt_cmpR op_eq (pv 1) (pe_callB call_len_str (by rfl) T.z_len (by decide +kernel) (pa_cons (pv 0) pa_nil)) (nomark _))))) (pss_one (ps_ret pe_non)) pss_nil)
      (pss_cons (ps_set (i := 3) sc__law_rest.nd rfl (Or.inl rfl) (pe_op op_add (pv 1) pe_int))
      (pss_cons (ps_set (i := 1) sc__law_rest.nd rfl (Or.inl rfl) (pv 3))
      (pss_cons (ps_while PassesOwn.never (PW.pt (pw_and (pt_cmpR op_lt (pv 1) (pe_callB call_len_str (by rfl) T.z_len (by decide +kernel) (pa_cons (pv 0) pa_nil)) (nomark _)) (pw_and1 (pt_cmpR op_in_sign (pe_ix ix_str (pv 0) (pv 1) (fun _ _ => rfl)) pe_str (by rfl))))) (pss_one (ps_set (i := 1) sc__law_rest.nd rfl (Or.inl rfl) (pe_op op_add (pv 1) pe_int))))
      (pss_cons (ps_set (i := 4) sc__law_rest.nd rfl (Or.inl rfl) (pe_slice sl_str (pv 0) (po_some (pv 3)) (po_some (pv 1))))
      (pss_one (ps_if (PW.pt (pw_or (pt_cmpR op_eq (pv 4) pe_str (nomark _)) (pw_or (PW.pt (pw_and (pt_cmpR op_eq (pe_ix ix_str (pv 4) pe_int (fun _ _ => rfl)) pe_str (nomark _)) (pw_and1 (pt_cmpR op_gt (pe_callB call_len_str (by rfl) T.z_len (by decide +kernel) (pa_cons (pv 4) pa_nil)) pe_int (nomark _))))) (pw_or (pt_cmpR op_gt (pe_callB call_len_str (by rfl) T.z_len (by decide +kernel) (pa_cons (pv 4) pa_nil)) pe_int (nomark _)) (pw_or1 (pt_cmpR op_gt (pe_callTy call_int_str (by rfl) T.z_int (by decide +kernel) (pa_cons (pv 4) pa_nil)) (pe_op op_pow pe_int pe_int) (nomark _))))))) (pss_one (ps_ret pe_non)) pss_nil)))))))) (pss_one (ps_ret pe_non)))))))
      (pss_one (ps_ret (pv 1)))), ?_⟩
      have hst : start ["_law_text", "_law_at", "_law_depth", "_law_start", "_law_digits"] [.str t, .int (a : Int), .int (d : Int)] = [some (.str t), some (.int (a : Int)), some (.int (d : Int)), none, none] := rfl
      rw [hst]
      walk_at "rd"
      have hl : t.cps.toList.length = t.length := Array.length_toList
      refine ⟨fun m σ' H' => ∃ (i : Nat) (x3 x4 : Option V), σ' = [some (.str t), some (.int i), some (.int d), x3, x4] ∧ H' = H ∧ m = t.length - i ∧ i ≤ t.length ∧ lrT t d i = lrT t d a, ⟨_, a, none, none, rfl, rfl, rfl, ha, rfl⟩, ?_⟩
      rintro m σ' H' ⟨i, x3, x4, rfl, rfl, rfl, hi, hv⟩
      walk_at "rd"
      refine ⟨sz_of ht, ?_⟩
      by_cases hlt : i < t.length
      · rw [decide_eq_true (by omega : (i : Int) < (t.length : Int))]
        walk_at "rd"
        obtain ⟨c, hc⟩ : ∃ c, t.cps.toList[i]? = some c := ⟨_, List.getElem?_eq_getElem (by omega)⟩
        have hc' : (tl t)[i]? = some c := hc
        refine ix_str_at ht (by omega) (by simpa using hc) ?_
        walk_at "rd"
        have hsg : decide ((⟨#[c]⟩ : Str) = Str.ofString ")") = decide (c = 41) := decide_eq_decide.mpr (sg_eq c ")" 41 (by decide +kernel))
        rw [hsg]
        by_cases h41 : c = 41
        · subst h41
          rw [decide_eq_true rfl, Bool.not_true, if_neg (by decide)]
          rw [← hv, lrT_close hc'] at q
          have e : lrV t (some ((tl t).drop i)) = .int (i : Int) := by
            show V.int ((t.length - ((tl t).drop i).length : Nat) : Int) = _
            rw [drop_len, show t.length - (t.length - i) = i by omega]
          rw [e] at q
          exact q
        rw [decide_eq_false h41, Bool.not_false, if_pos rfl]
        refine ⟨fun σ2 H2 => ∃ (i2 : Nat) (y3 y4 : Option V), σ2 = [some (.str t), some (.int i2), some (.int d), y3, y4] ∧ H2 = H' ∧ i < i2 ∧ i2 ≤ t.length ∧ lrT t d i2 = lrT t d a, ?_, ?_⟩
        · rintro σ2 H2 ⟨i2, y3, y4, rfl, rfl, g1, g2, g3⟩
          exact ⟨t.length - i2, by omega, i2, ⟨_, _, rfl⟩, rfl, rfl, g2, g3⟩
        refine ix_str_at ht (by omega) (by simpa using hc) ⟨c, rfl, ?_⟩
        have hst := congrFun mem_steps c
        rw [hst]
        by_cases hs : isStep c = true
        · rw [hs, if_pos rfl]
          exact ⟨i + 1, _, _, rfl, rfl, by omega, by omega, (lrT_step hc' hs).symm.trans hv⟩
        have hs' : isStep c = false := by simpa using hs
        rw [hs', if_neg (by decide)]
        refine ix_str_at ht (by omega) (by simpa using hc) ⟨rfl, ?_⟩
        have hop : decide (V.str (⟨#[c]⟩ : Str) = V.str (Str.ofString "(")) = decide (c = 40) := decide_eq_decide.mpr ⟨fun e => (sg_eq c "(" 40 (by decide +kernel)).mp (by injection e), fun e => by rw [(sg_eq c "(" 40 (by decide +kernel)).mpr e]⟩
        rw [hop]
        by_cases h40 : c = 40
        case neg =>
          rw [decide_eq_false h40, if_neg (by decide)]
          rw [← hv, lrT_other hc' h41 hs' (fun z => h40 z.1)] at q
          exact q
        rw [decide_eq_true h40, if_pos rfl]
        by_cases hd20 : d < 20
        case neg =>
          rw [decide_eq_false (by omega : ¬ (d : Int) < 20), if_neg (by decide)]
          rw [← hv, lrT_other hc' h41 hs' (fun z => hd20 z.2)] at q
          exact q
        rw [decide_eq_true (by omega : (d : Int) < 20), if_pos rfl]
        subst h40
        have hopen := lrT_open hc' hd20
        refine ⟨t, i + 1, d + 1, rfl, ht, by omega, by omega, by omega, by omega, ?_⟩
        cases e1 : lrT t (d + 1) (i + 1) with
        | none =>
          rw [e1] at hopen
          rw [← hv, hopen] at q
          exact q
        | some r =>
          rw [e1] at hopen
          obtain ⟨rd, rl⟩ := lrT_drop e1
          show if decide (V.int ((t.length - r.length : Nat) : Int) = V.non) = true then _ else _
          rw [decide_eq_false (by intro z; cases z), if_neg (by decide)]
          refine ⟨sz_of ht, rfl, ?_⟩
          cases r with
          | nil =>
            rw [decide_eq_true (show lrV t (some []) = V.int (t.length : Int) from rfl), if_pos rfl]
            rw [← hv, hopen] at q
            exact q
          | cons x r' =>
            rw [List.length_cons] at rd rl
            obtain ⟨k, hk⟩ : ∃ k, t.length - (r'.length + 1) = k := ⟨_, rfl⟩
            rw [hk] at rd
            have hkl : k < t.length := by omega
            have elr : lrV t (some (x :: r')) = .int (k : Int) := by
              show V.int ((t.length - (r'.length + 1) : Nat) : Int) = _
              rw [hk]
            rw [elr]
            rw [decide_eq_false (by intro z; injection z with z; omega), if_neg (by decide)]
            refine ⟨_, rfl, ?_⟩
            have er' : r' = (tl t).drop (k + 1) := by
              have := congrArg (List.drop 1) rd
              rw [List.drop_drop] at this
              simpa [Nat.add_comm] using this
            refine ⟨fun m σ2 H2 => ∃ (j : Nat), σ2 = [some (.str t), some (.int j), some (.int d), some (.int (k + 1 : Nat)), x4] ∧ H2 = H' ∧ m = t.length - j ∧ j ≤ t.length ∧ k + 1 ≤ j ∧ runE isDig t.cps.toList j = runE isDig t.cps.toList (k + 1), ⟨_, k + 1, rfl, rfl, rfl, by omega, by omega, rfl⟩, ?_⟩
            rintro m2 σ2 H2 ⟨j, rfl, rfl, rfl, hj, hkj, hjv⟩
            walk_at "rd"
            refine ⟨sz_of ht, ?_⟩
            by_cases hgo : ∃ c2, t.cps.toList[j]? = some c2 ∧ isDig c2 = true
            · obtain ⟨c2, hc2, hd2⟩ := hgo
              have hjl : j < t.length := by rw [← hl]; exact (List.getElem?_eq_some_iff.mp hc2).1
              rw [decide_eq_true (by omega : (j : Int) < (t.length : Int))]
              walk_at "rd"
              refine ix_str_at ht (by omega) (by simpa using hc2) ⟨c2, rfl, ?_⟩
              have hdg := congrFun mem_digits c2
              rw [hdg, hd2, if_pos rfl]
              refine ⟨fun σ3 H3 => σ3 = [some (.str t), some (.int (j + 1 : Nat)), some (.int d), some (.int (k + 1 : Nat)), x4] ∧ H3 = H2, ?_, rfl, rfl⟩
              rintro _ _ ⟨rfl, rfl⟩
              exact ⟨t.length - (j + 1), by omega, j + 1, rfl, rfl, rfl, by omega, by omega, (runE_go hc2 hd2).trans hjv⟩
            have hend : runE isDig t.cps.toList j = j := by
              by_cases hjl : j < t.length
              · obtain ⟨c2, hc2⟩ : ∃ c2, t.cps.toList[j]? = some c2 := ⟨_, List.getElem?_eq_getElem (by omega)⟩
                refine runE_stop hc2 ?_
                cases hd2 : isDig c2 with
                | false => rfl
                | true => exact absurd ⟨c2, hc2, hd2⟩ hgo
              · have e1 : j = t.cps.toList.length := by omega
                rw [e1]; exact runE_end
            by_cases hjl : j < t.length
            case' pos =>
              obtain ⟨c2, hc2⟩ : ∃ c2, t.cps.toList[j]? = some c2 := ⟨_, List.getElem?_eq_getElem (by omega)⟩
              have hd2 : isDig c2 = false := by
                cases hd2 : isDig c2 with
                | false => rfl
                | true => exact absurd ⟨c2, hc2, hd2⟩ hgo
              rw [decide_eq_true (by omega : (j : Int) < (t.length : Int))]
              walk_at "rd"
              refine ix_str_at ht (by omega) (by simpa using hc2) ⟨c2, rfl, ?_⟩
              have hdg := congrFun mem_digits c2
              rw [hdg, hd2, if_neg (by decide)]
            case' neg =>
              rw [decide_eq_false (by omega : ¬ (j : Int) < (t.length : Int))]
              walk_at "rd"
            all_goals
              walk_at "rd"
              refine ⟨t, rfl, sz_of ht, ?_⟩
              have hz : tl (cutS t (some ((k + 1 : Nat) : Int)) (some (j : Int))) = r'.takeWhile isDig := by
                have := cut_run isDig (t := t) (a := k + 1) (by omega)
                rw [← hjv, hend] at this
                rw [this, er']
              generalize cutS t (some ((k + 1 : Nat) : Int)) (some (j : Int)) = z at hz ⊢
              have hdrop : r'.dropWhile isDig = (tl t).drop j := by
                have := (take_run isDig t.cps.toList (k + 1)).2
                rw [← hjv, hend] at this
                rw [er']; exact this.symm
              have hopen2 : lrT t d i = if (rcount (r'.takeWhile isDig)).isSome then lr (t.length + 1) d (r'.dropWhile isDig) else none := hopen
              have hzd : (tl z).all isDig = true := by rw [hz]; exact List.all_takeWhile
              rw [← hz, rcount_bad hzd, hdrop] at hopen2
              have qb : badDig (tl z) = true → Q .non H2 := fun hb => by
                rw [hb, Bool.not_true, if_neg (by decide)] at hopen2
                rw [← hv, hopen2] at q
                exact q
              have qg : badDig (tl z) = false → lrT t d j = lrT t d a := fun hb => by
                rw [hb, Bool.not_false, if_pos rfl] at hopen2
                exact hopen2.symm.trans hv
              have hzl : (tl z).length = z.length := tl_len z
              have hzb : z.length ≤ 100000 := by
                have h1 := (List.takeWhile_sublist (l := r') isDig).length_le
                rw [← hz] at h1
                omega
              refine ⟨rfl, ?_⟩
              by_cases hz0 : z = Str.ofString ""
              · rw [decide_eq_true (by rw [hz0]), if_pos rfl]
                exact qb (badDig_of (.inl (by rw [hz0]; decide +kernel)))
              rw [decide_eq_false (fun e => hz0 (by injection e)), if_neg (by decide)]
              have hne : tl z ≠ [] := fun e => hz0 (tl_inj (e.trans (by decide +kernel)))
              obtain ⟨c0, l0, hz1⟩ : ∃ c0 l0, tl z = c0 :: l0 := by
                cases e : tl z with
                | nil => exact absurd e hne
                | cons c0 l0 => exact ⟨c0, l0, rfl⟩
              refine ix_str_at hzb (by decide) (c := c0) (show (tl z)[0]? = some c0 from by rw [hz1]; rfl) ⟨rfl, ?_⟩
              have hop0 : decide (V.str (⟨#[c0]⟩ : Str) = V.str (Str.ofString "0")) = decide (c0 = 48) := decide_eq_decide.mpr ⟨fun e => (sg_eq c0 "0" 48 (by decide +kernel)).mp (by injection e), fun e => by rw [(sg_eq c0 "0" 48 (by decide +kernel)).mpr e]⟩
              rw [hop0]
              have e30 : (10 : Int) ^ Int.toNat 30 = ((10 ^ 30 : Nat) : Int) := by decide +kernel
              have tail : ¬ ((tl z).head? = some 48 ∧ 1 < (tl z).length) → ∃ z_1, V.str z = V.str z_1 ∧ z_1.length ≤ sizeLine ∧ if decide ((31 : Int) < (z_1.length : Int)) = true then Q V.non H2 else ∃ a_1, V.str z = V.str a_1 ∧ ∃ x_2, intText? a_1 = some x_2 ∧ a_1.length ≤ 640 ∧ CPow 10 30 ∧ if decide ((10 : Int) ^ Int.toNat 30 < x_2) = true then Q V.non H2 else
                  ∃ i2 : Nat, (j : Int) = (i2 : Int) ∧ (∃ x, some (V.int ((k + 1 : Nat) : Int)) = x) ∧ (∃ x_3, some (V.str z) = x_3) ∧ H2 = H2 ∧ i < i2 ∧ i2 ≤ t.length ∧ lrT t d i2 = lrT t d a := fun h48 => by
                refine ⟨z, rfl, sz_of hzb, ?_⟩
                by_cases h31 : 31 < z.length
                · rw [decide_eq_true (by omega : (31 : Int) < (z.length : Int)), if_pos rfl]
                  exact qb (badDig_of (.inr (.inr (.inl (by omega)))))
                rw [decide_eq_false (by omega : ¬ (31 : Int) < (z.length : Int)), if_neg (by decide)]
                refine ⟨z, rfl, _, intText_digits (x := z) (digs_alldig hzd) hne (by omega), by omega, by unfold CPow; decide, ?_⟩
                rw [e30]
                by_cases hbig : 10 ^ 30 < NumText.digitsVal (tl z)
                · rw [decide_eq_true (Int.ofNat_lt.mpr hbig), if_pos rfl]
                  exact qb (badDig_of (.inr (.inr (.inr hbig))))
                · rw [decide_eq_false (fun h => hbig (Int.ofNat_lt.mp h)), if_neg (by decide)]
                  exact ⟨j, rfl, ⟨_, rfl⟩, ⟨_, rfl⟩, rfl, by omega, hj, qg (badDig_not hne h48 (by omega) hbig)⟩
              by_cases h48 : c0 = 48
              · rw [decide_eq_true h48, if_pos rfl]
                refine ⟨z, rfl, sz_of hzb, ?_⟩
                by_cases h1 : 1 < z.length
                · rw [decide_eq_true (by omega : (1 : Int) < (z.length : Int)), if_pos rfl]
                  exact qb (badDig_of (.inr (.inl ⟨by rw [hz1, h48]; rfl, by omega⟩)))
                · rw [decide_eq_false (by omega : ¬ (1 : Int) < (z.length : Int)), if_neg (by decide)]
                  simpa using tail (fun h => h1 (by omega))
              · rw [decide_eq_false h48, if_neg (by decide)]
                simpa using tail (fun h => h48 (by have := h.1; rw [hz1] at this; simpa using this))
      · rw [decide_eq_false (by omega : ¬ (i : Int) < (t.length : Int))]
        walk_at "rd"
        have e0 : i = t.length := by omega
        rw [← hv, lrT_end (by omega)] at q
        rw [e0]
        exact q
theorem ok__law_rest (T : Top K mg) : FnOk P w K mg base CX0 22 T.a__law_rest T.d__law_rest ["_law_text", "_law_at", "_law_depth"] (sp_rest 21) := rec_rest T 21
theorem ok__law_is_program (T : Top K mg) : FnOk P w K mg base CX0 23 T.a__law_is_program T.d__law_is_program ["_law_text"] (fun vs H Q _ => ∃ t : Str, vs = [.str t] ∧ t.length ≤ 100000 ∧ Q (.bl (rpt (tl t)).isSome) H) := by
  have G__law_rest := ok__law_rest (w := w) (base := base) T
  refine T.F__law_is_program.ok sc__law_is_program (fun vs H Q E h => ?_) (fun cdv A outer s H vs Q E hr h => ?_)
  · obtain ⟨t, rfl, _⟩ := h
    rfl
  · obtain ⟨t, rfl, ht, q⟩ := h
    refine ⟨_, (pss_one (ps_ret (pe_cmpR op_eq (pe_call G__law_rest (hr.mono (by first | decide | omega)) rfl T.m__law_rest T.F__law_rest.kp T.b__law_rest .nil pass0 (pa_cons (pv 0) (pa_cons pe_int (pa_cons pe_int pa_nil)))) (pe_callB call_len_str (by rfl) T.z_len (by decide +kernel) (pa_cons (pv 0) pa_nil)) (nomark _)))), ?_⟩
    have hst : start ["_law_text"] [.str t] = [some (.str t)] := rfl
    rw [hst]
    walk_at "rd"
    refine ⟨t, 0, 0, rfl, ht, Nat.zero_le _, by decide, by decide, by decide, sz_of ht, ?_⟩
    have e : lrT t 0 0 = lr ((tl t).length + 1) 0 (tl t) := by unfold lrT; rw [tl_len]; rfl
    have e2 := lr_rpt (tl t)
    rw [← e] at e2
    rw [e2] at q
    cases h : lrT t 0 0 with
    | none =>
      rw [h] at q
      refine ⟨rfl, ?_⟩
      exact q
    | some r =>
      rw [h] at q
      refine ⟨rfl, ?_⟩
      have rl := (lrT_drop h).2
      have : decide (lrV t (some r) = V.int (t.length : Int)) = decide ((some r : Option (List Nat)) = some []) := decide_eq_decide.mpr ⟨fun z => by
        have z : V.int ((t.length - r.length : Nat) : Int) = V.int (t.length : Int) := z
        injection z with z
        have hs := lrT_suffix (t := t) _ h
        by_cases h0 : t.length = 0
        · rw [List.eq_nil_of_length_eq_zero (by omega : r.length = 0)]
        · rw [List.eq_nil_of_length_eq_zero (by omega : r.length = 0)], fun z => by
        injection z with z
        subst z; rfl⟩
      rw [this]
      exact q

/-! ### count_part_steps -/
def sp_cps (n : Nat) : Sp := fun vs H Q _ => ∃ (p : Addr) (ps : Parts), vs = [.ref p] ∧ PartsAt H p ps ∧ ps.dep < n ∧ n ≤ 21 ∧ ps.ok ∧ ps.vol ≤ 100000 ∧ Q (.int (ps.den.length : Nat)) H
theorem rec_cps (T : Top K mg) : ∀ n : Nat, FnOk P w K mg base CX0 (n + 1) T.a_count_part_steps T.d_count_part_steps ["parts"] (sp_cps n)
  | 0 => by
    refine T.F_count_part_steps.ok sc_count_part_steps (fun vs H Q E h => ?_) (fun cdv A outer s H vs Q E hr h => ?_)
    · obtain ⟨p, ps, rfl, _⟩ := h
      rfl
    · obtain ⟨p, ps, rfl, _, h, _⟩ := h
      exact absurd h (Nat.not_lt_zero _)
  | n + 1 => by
    have G_count_part_steps := rec_cps T n
    refine T.F_count_part_steps.ok sc_count_part_steps (fun vs H Q E h => ?_) (fun cdv A outer s H vs Q E hr h => ?_)
    · obtain ⟨p, ps, rfl, _⟩ := h
      rfl
    · obtain ⟨p, ps, rfl, ⟨xs, hp, hxs, hvs⟩, hd, hn, hok, hvol, q⟩ := h
      refine ⟨_, (pss_cons (ps_set (i := 1) sc_count_part_steps.nd rfl (Or.inl rfl) pe_int)
      (pss_cons (ps_for PassesOwn.never rfl (pi_list (pv 0)) (pg_name (i := 2) sc_count_part_steps.nd rfl (Or.inl rfl)) (pss_one (ps_if (pt_val (pe_callB call_isi (by rfl) T.z_isinstance (by decide +kernel) (pa_cons (pv 2) (pa_cons (pe_bltn (v := .ty "str") (by rfl) T.z_str (by decide +kernel) rfl) pa_nil)))) (pss_one (ps_aug (i := 1) sc_count_part_steps.nd rfl (Or.inl rfl) (pe_callB call_len_str (by rfl) T.z_len (by decide +kernel) (pa_cons (pv 2) pa_nil)) ip_add)) (pss_cons (ps_asg (pv 2) (pg_tup (by rfl) (pgs_cons (pg_name (i := 3) sc_count_part_steps.nd rfl (Or.inl rfl)) (pgs_cons (pg_name (i := 4) sc_count_part_steps.nd rfl (Or.inl rfl)) pgs_nil))))
      (pss_one (ps_aug (i := 1) sc_count_part_steps.nd rfl (Or.inl rfl) (pe_op op_mulW (pe_call G_count_part_steps (hr.mono (by first | decide | omega)) rfl T.m_count_part_steps T.F_count_part_steps.kp T.b_count_part_steps .nil pass0 (pa_cons (pv 3) pa_nil)) (pv 4)) ip_add))))))
      (pss_one (ps_ret (pv 1))))), ?_⟩
      have hst : start ["parts", "size", "part", "body", "count"] [.ref p] = [some (.ref p), none, none, none, none] := rfl
      rw [hst]
      walk_at "rd"
      refine forL fun R kR => ?_
      walk_at "rd"
      refine kR p xs (fun i σ H1 => H1 = H ∧ ∃ (sz : Nat) (ps' : Parts) (x2 x3 x4 : Option V), σ = [some (.ref p), some (.int sz), x2, x3, x4] ∧ PVs H (xs.drop i) ps' ∧ sz + ps'.den.length = ps.den.length ∧ ps'.dep < n + 1 ∧ ps'.ok ∧ ps'.vol ≤ 100000)
        H (SqL.of hp) ⟨rfl, 0, ps, _, _, _, rfl, hvs, by omega, hd, hok, hvol⟩ (fun i σ H1 _ h => by rw [h.1]; exact SqL.of hp) ?_ ?_
      · rintro i x σ H1 hx ⟨rfl, sz, ps', x2, x3, x4, rfl, pv', hsz, hd', hok', hvol'⟩
        obtain ⟨hi, ex⟩ := List.getElem?_eq_some_iff.mp hx
        rw [List.drop_eq_getElem_cons hi, ex] at pv'
        walk_at "rd"
        cases pv' with
        | seq pr =>
          rw [Parts.vol] at hvol'
          rw [Parts.den, List.length_append] at hsz
          rename_i s0 r0
          have hs0 : (tl s0).length = s0.length := tl_len s0
          refine isi_str (.str _ (by omega)) ?_
          simp only [tStr]
          walk_at "rd"
          exact ⟨sz_of (by omega), _, _, rfl, rfl, rfl, sz + s0.length, by simp, ⟨_, rfl⟩, ⟨_, rfl⟩, ⟨_, rfl⟩, _, pr, by omega, hd', hok'.2.2, by omega⟩
        | rep h1 h2 h3 hb pr =>
          rename_i q0 p0 n0 vb b0 r0
          rw [Parts.vol] at hvol'
          rw [Parts.dep] at hd'
          rw [Parts.den, List.length_append, len_frep] at hsz
          refine isi_str (kd_tup h1) ?_
          simp only [tStr]
          walk_at "rd"
          refine ⟨[.ref p0, .int n0], SqT.of h1, rfl, ?_⟩
          simp only [gCons, gNil]
          walk_at "rd"
          simp only [sp_cps]
          have hm : CMulW (b0.den.length : Int) (n0 : Int) := wide_mul (a := 17 + 100 * 20) (b := 100) (by rw [Int.natAbs_natCast]; exact den_lt hok'.1 (by omega) (by omega)) (by rw [Int.natAbs_natCast]; exact Nat.lt_of_le_of_lt hok'.2.1 (by decide)) (by decide) (by decide) (by decide)
          refine ⟨p0, b0, rfl, ⟨vb, h2, h3, hb⟩, by omega, by omega, hok'.1, by omega, _, rfl, hm, _, _, rfl, rfl, rfl, sz + b0.den.length * n0, by simp, ⟨_, rfl⟩, ⟨_, rfl⟩, ⟨_, rfl⟩, r0, pr, ?_, by omega, hok'.2.2, by omega⟩
          rw [← hsz, Nat.mul_comm n0, Nat.add_assoc]
      · rintro σ H1 ⟨rfl, sz, ps', x2, x3, x4, rfl, pv', hsz, hd', hok', hvol'⟩
        rw [List.drop_length] at pv'
        cases pv'
        walk_at "rd"
        rw [show ps.den.length = sz from by rw [← hsz]; rfl] at q
        exact q
theorem ok_count_part_steps (T : Top K mg) : FnOk P w K mg base CX0 22 T.a_count_part_steps T.d_count_part_steps ["parts"] (sp_cps 21) := rec_cps T 21

/-- [e for c in a text] -/
theorem lcS {tl0 : TE} {g : TG} {tt : TT} {te : TE} {vs : List Nat} {σ : L2.St} {H : Hp} {Q : VK}
    (h : ∀ R : VK, (∀ (z : Str) (H1 : Hp), (∀ D, H1 D = none → ∃ Pv : Nat → Hp → Prop, Pv 0 (upd H1 D (.lst [])) ∧
      (∀ i c H, (tl z)[i]? = some c → Pv i H → g (.str ⟨#[c]⟩) (wipe σ vs) H fun σ2 H2 => wipe σ2 vs = wipe σ vs ∧ tt σ2 H2 fun b H3 =>
        if b = true then te σ2 H3 fun y H4 => ∃ acc, H4 D = some (.lst acc) ∧ acc.length < sizeLine ∧ Pv (i + 1) (upd H4 D (.lst (acc ++ [y]))) else Pv (i + 1) H3) ∧ ∀ H, Pv (tl z).length H → Q (.ref D) H) → R (.str z) H1) → tl0 σ H R) : tLc (iStr tl0) g tt te vs σ H Q :=
  h _ fun z H1 hk => ⟨z, rfl, fun D hD => by
    obtain ⟨Pv, h0, hs, hd⟩ := hk D hD
    have hsz : (tl z).length = z.cps.size := Array.length_toList
    refine ⟨fun i m H => m = (tl z).length - i ∧ i ≤ (tl z).length ∧ Pv i H, ⟨(tl z).length, by simp, Nat.zero_le _, h0⟩, ?_⟩
    rintro i m H ⟨rfl, hi, p⟩
    by_cases hlt : i < (tl z).length
    · refine .inr ⟨by show i < z.cps.size; omega, Pv (i + 1), fun H' p' => ⟨(tl z).length - (i + 1), by omega, rfl, hlt, p'⟩, fun v H' y => ?_⟩
      obtain ⟨e, c, hc, ev⟩ := y
      subst e ev
      exact hs i c _ (by show z.cps.toList[i]? = some c; rw [Array.getElem?_toList]; exact hc) p
    · have e : i = (tl z).length := by omega
      subst e
      exact .inl ⟨by show z.cps.size ≤ _; omega, hd H p⟩⟩
theorem strip_steps {z : Str} (h : (tl z).all isStep = true) : Txt.stripChars z (Str.ofString "abcdefghijklmnopqrstuvwxyz-") = Str.ofString "" := by
  refine tl_inj ?_
  rw [show tl (Str.ofString "") = [] from by decide +kernel]
  show (Txt.stripChars z (Str.ofString "abcdefghijklmnopqrstuvwxyz-")).cps.toList = _
  unfold Txt.stripChars
  rw [strip_none (g := (Str.ofString "abcdefghijklmnopqrstuvwxyz-").cps.contains)]
  rw [List.all_eq_true] at h ⊢
  intro c hc
  have hs := h c hc
  have key : ∀ c : Nat, c < 123 → isStep c = true → (Str.ofString "abcdefghijklmnopqrstuvwxyz-").cps.contains c = true := by decide +kernel
  refine key c ?_ hs
  simp only [isStep, isLet, Bool.or_eq_true, Bool.and_eq_true, decide_eq_true_eq, beq_iff_eq] at hs
  omega
theorem strip_iff {z : Str} : decide (Txt.stripChars z (Str.ofString "abcdefghijklmnopqrstuvwxyz-") = Str.ofString "") = (tl z).all isStep := by
  cases h : (tl z).all isStep with
  | true => rw [strip_steps h]; exact decide_eq_true rfl
  | false =>
    refine decide_eq_false fun e => ?_
    have e2 : Txt.stripChars z (Str.ofString "abcdefghijklmnopqrstuvwxyz-") = Str.ofString "" := e
    have h2 : (Txt.stripBy (Str.ofString "abcdefghijklmnopqrstuvwxyz-").cps.contains true true z).cps.toList = [] := by
      have : (Txt.stripChars z (Str.ofString "abcdefghijklmnopqrstuvwxyz-")).cps.toList = [] := by rw [e2]; decide +kernel
      exact this
    have h3 := strip_some h2
    have h4 : (tl z).all isStep = true := by
      rw [List.all_eq_true]
      intro ch hc
      have h5 := List.all_eq_true.mp h3 ch hc
      have key : ∀ c ∈ tl (Str.ofString "abcdefghijklmnopqrstuvwxyz-"), isStep c = true := by decide +kernel
      exact key ch (by
        have h6 : ch ∈ (Str.ofString "abcdefghijklmnopqrstuvwxyz-").cps := Array.contains_iff_mem.mp h5
        exact Array.mem_toList_iff.mpr h6)
    rw [h4] at h; cases h
def seqV : V → Bool | .str z => (tl z).all isStep | _ => false
theorem ok_is_sequence (T : Top K mg) : FnOk P w K mg base CX0 1 T.a_is_sequence T.d_is_sequence ["value"] (fun vs H Q _ => ∃ x : V, vs = [x] ∧ Kd K H x ∧ (∀ z, x = .str z → z.length ≤ 10000) ∧ Q (.bl (seqV x)) H) := by

  refine T.F_is_sequence.ok sc_is_sequence (fun vs H Q E h => ?_) (fun cdv A outer s H vs Q E hr h => ?_)
  · obtain ⟨x, rfl, _⟩ := h
    rfl
  · obtain ⟨x, rfl, kx, hz, q⟩ := h
    refine ⟨_, (pss_one (ps_ret (pe_and (pe_callB call_isi (by rfl) T.z_isinstance (by decide +kernel) (pa_cons (pv 0) (pa_cons (pe_bltn (v := .ty "str") (by rfl) T.z_str (by decide +kernel) rfl) pa_nil))) (pe_one (pe_cmpR op_eq (pe_bm PySem.F.plainAttrs_str PySem.F.slot_str_strip PySem.F.type_str_strip mt_stripChars (pv 0) (pa_cons (pe_glob (v := .str "abcdefghijklmnopqrstuvwxyz-") (by rfl) T.c_STEPS ⟨_, rfl⟩) pa_nil)) pe_str (nomark _)))))), ?_⟩
    have hst : start ["value"] [x] = [some x] := rfl
    rw [hst]
    walk_at "rd"
    refine isi_str kx ?_
    cases x with
    | str z =>
      have hz := hz z rfl
      simp only [tStr]
      walk_at "rd"
      refine ⟨sz_of (by omega), ?_⟩
      rw [strip_iff]
      exact q
    | _ => exact ⟨false, rfl, by rw [if_neg (by decide)]; exact q⟩

/-! ### programs of any kind of value -/
theorem prog_str {x : V} {ps : Parts} (h : progV x = some ps) : ∃ t, x = .str t := by
  cases x with
  | str t => exact ⟨t, rfl⟩
  | _ => cases h
theorem prog_ok {K : PySem.W.Frag} {H : Hp} {x : V} {ps : Parts} (h : progV x = some ps) (kx : Kd K H x) : ps.dep ≤ 20 ∧ ps.ok ∧ ps.vol ≤ 100000 := by
  obtain ⟨t, rfl⟩ := prog_str h
  have h1 := rpt_deep (t := tl t) h
  have h2 := rpt_vol (t := tl t) h
  have ht : t.length ≤ 100000 := by cases kx; assumption
  have h3 := tl_len t
  exact ⟨h1.1, h1.2, by omega⟩
def sp_any1 (K : PySem.W.Frag) (C : Addr) : Sp := fun vs H Q E => ∃ x, vs = [x] ∧ Kd K H x ∧ (progV x = none → ∀ H1, Same H H1 → E (.ref C) none H1) ∧ (∀ ps, progV x = some ps → ∀ v H1, Same H H1 → Q v H1)
theorem ok_count_steps (T : Top K mg) : FnOk P w K mg base (L2.CX P w) 23 T.a_count_steps T.d_count_steps ["program"] (sp_any1 K T.x_InvalidProgram) := by
  have G_count_part_steps := ok_count_part_steps (w := w) (base := base) T
  have G_parts_of := ok_parts_of (w := w) (base := base) T
  refine T.F_count_steps.okX sc_count_steps (fun vs H Q E h => ?_) (fun cdv A outer s H vs Q E hr h => ?_)
  · obtain ⟨x, rfl, _⟩ := h
    rfl
  · obtain ⟨x, rfl, kx, e1, q⟩ := h
    refine ⟨_, (pss_one (ps_ret (pe_call G_count_part_steps (hr.mono (by first | decide | omega)) rfl T.m_count_part_steps T.F_count_part_steps.kp T.b_count_part_steps .nil pass0 (pa_cons (pe_callS G_parts_of (hr.mono (by first | decide | omega)) rfl T.m_parts_of T.F_parts_of.kp T.b_parts_of (fun σ => passAt (takes_of rfl rfl rfl rfl) σ) (pa_cons (pv 0) pa_nil)) pa_nil)))), ?_⟩
    have hst : start ["program"] [x] = [some x] := rfl
    rw [hst]
    walk_at "rd"
    simp only [tCallS, sp_parts_of]
    walk_at "rd"
    refine ⟨kx, fun e H1 s1 => e1 e H1 s1, fun ps e p H1 s1 hn hp => ?_⟩
    obtain ⟨g1, g2, g3⟩ := prog_ok e kx
    exact ⟨p, ps, rfl, hp, by omega, by decide, g2, g3, q ps e _ H1 s1⟩
def sp_last1 (K : PySem.W.Frag) (C : Addr) : Sp := fun vs H Q E => ∃ (x : V) (m : Nat), vs = [x, .int (m : Int)] ∧ m ≤ 4000 ∧ Kd K H x ∧ (progV x = none → ∀ H1, Same H H1 → E (.ref C) none H1) ∧ (∀ ps, progV x = some ps → ∀ v H1, Same H H1 → Q v H1)
theorem ok_last_puts (T : Top K mg) : FnOkN 343 P w K mg base (L2.CX P w) 44 T.a_last_puts T.d_last_puts ["program", "count"] (sp_last1 K T.x_InvalidProgram) := by
  have G_parts_of := ok_parts_of (w := w) (base := base) T
  have G_last_letters := ok_last_letters (w := w) (base := base) T
  have G_is_int_between := ok_is_int_between (w := w) (base := base) T
  refine funXN T.F_last_puts sc_last_puts (fun vs H Q E h => ?_) (fun cdv A outer s H vs Q E hr h => ?_)
  · obtain ⟨x, m, rfl, _⟩ := h
    rfl
  · obtain ⟨x, m, rfl, hm, kx, e1, q⟩ := h
    refine ⟨_, (pssn_cons (psn_of (ps_set (i := 2) sc_last_puts.nd rfl (Or.inl rfl) (pe_callS G_parts_of (hr.mono (by first | decide | omega)) rfl T.m_parts_of T.F_parts_of.kp T.b_parts_of (fun σ => passAt (takes_of rfl rfl rfl rfl) σ) (pa_cons (pv 0) pa_nil)))) (pssn_cons (psn_of (ps_if (pt_not (pt_val (pe_call G_is_int_between (hr.mono (by first | decide | omega)) rfl T.m_is_int_between T.F_is_int_between.kp T.b_is_int_between .nil pass0 (pa_cons (pv 1) (pa_cons pe_int (pa_cons (pe_glob (v := .int 4000) (by rfl) T.c_MOST_STEPS ⟨_, rfl⟩) pa_nil)))))) (pss_one (ps_raise rfl (takes_of rfl rfl rfl rfl) (pmk_own PySem.F.excBase_ValueError T.q_InvalidInteger T.g_InvalidInteger T.k_InvalidInteger (raises_own T.b_InvalidInteger T.t_InvalidInteger) rfl))) pss_nil)) (pssn_one (psn_ret (pen_call G_last_letters (hr.mono (by first | decide | omega)) rfl T.m_last_letters T.F_last_letters.kp T.b_last_letters .nil pass0 (pan_of (pa_cons (pv 2) (pa_cons (pv 1) pa_nil)))))))), ?_⟩
    have hst : start ["program", "count", "parts"] [x, .int (m : Int)] = [some x, some (.int (m : Int)), none] := rfl
    rw [hst]
    walk_at "rd"
    simp only [tCallS, sp_parts_of]
    walk_at "rd"
    refine ⟨kx, fun e H1 s1 => e1 e H1 s1, fun ps e p H1 s1 hn hp => ?_⟩
    obtain ⟨g1, g2, g3⟩ := prog_ok e kx
    walk_at "rd"
    simp only [sp_is_int_between]
    refine ⟨.int (m : Int), 0, 4000, rfl, .int _, _, rfl, ?_⟩
    rw [if_neg (by simp only [Bool.not_eq_true', Bool.not_eq_false, Bool.and_eq_true, decide_eq_true_eq]; omega)]
    exact ⟨p, ps, m, rfl, hp, by omega, by decide, g2, g3, hm, fun H2 s2 => q ps e _ H2 (s1.trans s2)⟩
def sp_bad1 (K : PySem.W.Frag) (C : Addr) : Sp := fun vs H Q E => ∃ x, vs = [x] ∧ Kd K H x ∧ progV x = none ∧ (∀ H1, Same H H1 → E (.ref C) none H1)
def sp_bad2 (K : PySem.W.Frag) (C : Addr) : Sp := fun vs H Q E => ∃ x y, vs = [x, y] ∧ Kd K H x ∧ progV x = none ∧ (∀ H1, Same H H1 → E (.ref C) none H1)
theorem ok_write_out (T : Top K mg) : FnOk P w K mg base (L2.CX P w) 6 T.a_write_out T.d_write_out ["program"] (sp_bad1 K T.x_InvalidProgram) := by
  have G_parts_of := ok_parts_of (w := w) (base := base) T
  refine T.F_write_out.okX sc_write_out (fun vs H Q E h => ?_) (fun cdv A outer s H vs Q E hr h => ?_)
  · obtain ⟨x, rfl, _⟩ := h
    rfl
  · obtain ⟨x, rfl, kx, e1, q⟩ := h
    refine ⟨_, (pss_cons (ps_set (i := 1) sc_write_out.nd rfl (Or.inl rfl) (pe_callS G_parts_of (hr.mono (by first | decide | omega)) rfl T.m_parts_of T.F_parts_of.kp T.b_parts_of (fun σ => passAt (takes_of rfl rfl rfl rfl) σ) (pa_cons (pv 0) pa_nil)))
      (pss_cons ps_never
      (pss_cons ps_never
      (pss_one ps_never)))), ?_⟩
    have hst : start ["program", "parts", "size"] [x] = [some x, none, none] := rfl
    rw [hst]
    walk_at "rd"
    simp only [tCallS, sp_parts_of]
    walk_at "rd"
    exact ⟨kx, fun e H1 s1 => q H1 s1, fun ps e => by rw [e1] at e; cases e⟩
theorem ok_repeat (T : Top K mg) : FnOk P w K mg base (L2.CX P w) 6 T.a_repeat T.d_repeat ["program", "count"] (sp_bad2 K T.x_InvalidProgram) := by
  have G_parts_of := ok_parts_of (w := w) (base := base) T
  refine T.F_repeat.okX sc_repeat (fun vs H Q E h => ?_) (fun cdv A outer s H vs Q E hr h => ?_)
  · obtain ⟨x, y, rfl, _⟩ := h
    rfl
  · obtain ⟨x, y, rfl, kx, e1, q⟩ := h
    refine ⟨_, (pss_cons (ps_set (i := 2) sc_repeat.nd rfl (Or.inl rfl) (pe_callS G_parts_of (hr.mono (by first | decide | omega)) rfl T.m_parts_of T.F_parts_of.kp T.b_parts_of (fun σ => passAt (takes_of rfl rfl rfl rfl) σ) (pa_cons (pv 0) pa_nil)))
      (pss_cons ps_never
      (pss_cons ps_never
      (pss_cons ps_never
      (pss_one ps_never))))), ?_⟩
    have hst : start ["program", "count", "parts", "depth"] [x, y] = [some x, some y, none, none] := rfl
    rw [hst]
    walk_at "rd"
    simp only [tCallS, sp_parts_of]
    walk_at "rd"
    exact ⟨kx, fun e H1 s1 => q H1 s1, fun ps e => by rw [e1] at e; cases e⟩
/-! ### _law_error -/
def sp_lerr (K : PySem.W.Frag) : Sp := fun vs H Q _ => ∃ (f : Nat) (x : V), vs = [.int (f : Int), x] ∧ Kd K H x ∧ f < 6 ∧ (progV x = none ∨ f < 4) ∧ ∀ H1, Same H H1 → Q (.bl (!(progV x).isSome)) H1
theorem ok__law_error (T : Top K mg) : FnOkN 343 P w K mg base CX0 45 T.a__law_error T.d__law_error ["_law_function", "_law_value"] (sp_lerr K) := by
  have G_count_steps := ok_count_steps (w := w) (base := base) T
  have G_last_puts := ok_last_puts (w := w) (base := base) T
  have G_start_lengths := ok_start_lengths (w := w) (base := base) T
  have G_Profile_of := ok_Profile_of (w := w) (base := base) T
  have G_repeat := ok_repeat (w := w) (base := base) T
  have G_write_out := ok_write_out (w := w) (base := base) T
  refine funN T.F__law_error sc__law_error (fun vs H Q E h => ?_) (fun cdv A outer s H vs Q E hr h => ?_)
  · obtain ⟨f, x, rfl, _⟩ := h
    rfl
  · obtain ⟨f, x, rfl, kx, hf, hx, q⟩ := h
    refine ⟨_, (pssn_cons (psn_try_mix (tb := fun W => tIfS (tTest (tOp rEq (tVar 0) (tC (.int 0)))) (tDrop (tCall (sp_any1 K T.x_InvalidProgram) [] (WA W) (tCons (tVar 1) tNil))) (tIfS (tTest (tOp rEq (tVar 0) (tC (.int 1)))) (tDrop (tCall (sp_last1 K T.x_InvalidProgram) [] (WA W) (tCons (tVar 1) (tCons (tC (.int 3)) tNil)))) (tIfS (tTest (tOp rEq (tVar 0) (tC (.int 2)))) (tDrop (tCall (sp_slenE K T.x_InvalidProgram T.x_InvalidCapacity T.x_InvalidMode) [] (WA W) (tCons (tVar 1) (tCons (tC (.int 3)) (tCons (tC (.str "oldest")) tNil))))) (tIfS (tTest (tOp rEq (tVar 0) (tC (.int 3)))) (tDrop (ClX.tCMeth T.x_Profile (fun vs H Q E => sp_pofx K T.x_Profile T.x_InvalidProgram (vs ++ []) H Q E) (WA W) (tC (.ref T.x_Profile)) (tCons (tVar 1) tNil))) (tIfS (tTest (tOp rEq (tVar 0) (tC (.int 4)))) (tDrop (tCall (sp_bad2 K T.x_InvalidProgram) [] (WA W) (tCons (tVar 1) (tCons (tC (.int 0)) tNil)))) (tDrop (tCall (sp_bad1 K T.x_InvalidProgram) [] (WA W) (tCons (tVar 1) tNil)))))))) (l := [⟨.ref T.x_InvalidProgram, none, fun _ _ _ => tRet (tC (.bl true))⟩]) rfl rfl sc__law_error.nd (by simp) (fun W pn xe tk _ => by exact (pssn_one (psn_if (ptn_of (pt_cmpR op_eq (pv 0) pe_int (nomark _))) (pssn_of (pss_one (ps_expr (pe_call G_count_steps (hr.mono (by first | decide | omega)) rfl T.m_count_steps T.F_count_steps.kp T.b_count_steps .nil (passAll tk) (pa_cons (pv 1) pa_nil))))) (pssn_one (psn_if (ptn_of (pt_cmpR op_eq (pv 0) pe_int (nomark _))) (pssn_one (psn_expr (pen_call G_last_puts (hr.mono (by first | decide | omega)) rfl T.m_last_puts T.F_last_puts.kp T.b_last_puts .nil (passAll tk) (pan_of (pa_cons (pv 1) (pa_cons pe_int pa_nil)))))) (pssn_of (pss_one (ps_if (pt_cmpR op_eq (pv 0) pe_int (nomark _)) (pss_one (ps_expr (pe_call G_start_lengths (hr.mono (by first | decide | omega)) rfl T.m_start_lengths T.F_start_lengths.kp T.b_start_lengths .nil (passAll tk) (pa_cons (pv 1) (pa_cons pe_int (pa_cons pe_str pa_nil)))))) (pss_one (ps_if (pt_cmpR op_eq (pv 0) pe_int (nomark _)) (pss_one (ps_expr (ClX.pe_cmeth (pe_glob (v := .ref T.x_Profile) (by rfl) T.g_Profile rfl) T.rd_Profile T.cm_Profile_of (FnOk.raw G_Profile_of T.b_Profile_of .nil) (hr.mono (by first | decide | omega)) (passAll tk) (pa_cons (pv 1) pa_nil)))) (pss_one (ps_if (pt_cmpR op_eq (pv 0) pe_int (nomark _)) (pss_one (ps_expr (pe_call G_repeat (hr.mono (by first | decide | omega)) rfl T.m_repeat T.F_repeat.kp T.b_repeat .nil (passAll tk) (pa_cons (pv 1) (pa_cons pe_int pa_nil))))) (pss_one (ps_expr (pe_call G_write_out (hr.mono (by first | decide | omega)) rfl T.m_write_out T.F_write_out.kp T.b_write_out .nil (passAll tk) (pa_cons (pv 1) pa_nil)))))))))))))))) (.plain ⟨rfl, by decide, .inl T.g_InvalidProgram⟩ (fun a oe cls d pn _ _ => pss_one (ps_ret pe_bl)) .nil)) (pssn_of (pss_one (ps_ret pe_bl)))), ?_⟩
    have hst : start ["_law_function", "_law_value"] [.int (f : Int), x] = [some (.int (f : Int)), some x] := rfl
    rw [hst]
    walk_at "rd"
    have qe : progV x = none → ∀ {D : Ends}, D.rt = Q → ∀ H1, Same H H1 → WA (wMix K D [⟨.ref T.x_InvalidProgram, none, fun _ _ _ => tRet (tC (.bl true))⟩]) (.ref T.x_InvalidProgram) none H1 := fun e D hD H1 s1 σ => by
      simp only [wMix]
      refine ⟨true, T.e_InvalidProgram, fun _ a ha => ?_, fun h => by cases h⟩
      have := q H1 s1
      rw [e] at this
      simp only [Cls1.ends, Cls1.at]
      walk_at "rd"
      rw [hD]
      exact this
    rcases (by omega : f = 0 ∨ f = 1 ∨ f = 2 ∨ f = 3 ∨ f = 4 ∨ f = 5) with rfl | rfl | rfl | rfl | rfl | rfl
    · rw [if_pos (by decide)]
      exact ⟨x, rfl, kx, fun e H1 s1 => qe e rfl H1 s1, fun ps e v H1 s1 => by
        have := q H1 s1
        rw [e] at this
        exact this⟩
    · rw [if_neg (by decide), if_pos (by decide)]
      exact ⟨x, 3, rfl, by decide, kx, fun e H1 s1 => qe e rfl H1 s1, fun ps e v H1 s1 => by
        have := q H1 s1
        rw [e] at this
        exact this⟩
    · rw [if_neg (by decide), if_neg (by decide), if_pos (by decide)]
      exact ⟨x, .int 3, .str (Str.ofString "oldest"), rfl, kx, .int _, .str _ (by decide +kernel), fun e H1 s1 => qe e rfl H1 s1, fun ps e h => absurd h (by decide), fun ps e h h2 => absurd h2 (by decide +kernel), fun ps e h h2 v H1 s1 => by
        have := q H1 s1
        rw [e] at this
        exact this⟩
    · rw [if_neg (by decide), if_neg (by decide), if_neg (by decide), if_pos (by decide)]
      exact ⟨x, rfl, kx, fun e H1 s1 => qe e rfl H1 s1, fun ps e y H1 s1 _ _ => by
        have := q H1 s1
        rw [e] at this
        exact this⟩
    · rw [if_neg (by decide), if_neg (by decide), if_neg (by decide), if_neg (by decide), if_pos (by decide)]
      have hx' : progV x = none := hx.elim id (fun h => absurd h (by decide))
      exact ⟨x, _, rfl, kx, hx', fun H1 s1 => qe hx' rfl H1 s1⟩
    · rw [if_neg (by decide), if_neg (by decide), if_neg (by decide), if_neg (by decide), if_neg (by decide)]
      have hx' : progV x = none := hx.elim id (fun h => absurd h (by decide))
      exact ⟨x, rfl, kx, hx', fun H1 s1 => qe hx' rfl H1 s1⟩

/-! ### the law of programs recognized -/
theorem sg_ok : ∀ {c : Nat}, c < 128 → okF (.str (sg c)) = true := by
  have h : ∀ c : Nat, c < 128 → okF (.str (sg c)) = true := by decide +kernel
  exact fun {c} => h c
def sp_right : Sp := fun vs H Q _ => ∃ t : Str, vs = [.str t] ∧ t.length ≤ 10000 ∧ (tl t).all (fun c => decide (c < 128)) = true ∧ ∀ H1, Same H H1 → Q (.bl true) H1
theorem ok__law_right (T : Top K mg) : FnOkN 343 P w K mg base CX0 46 T.a__law_right T.d__law_right ["_law_text"] sp_right := by
  have G__law_is_program := ok__law_is_program (w := w) (base := base) T
  have G_is_sequence := ok_is_sequence (w := w) (base := base) T
  have G_is_program := ok_is_program (w := w) (base := base) T
  have G__law_error := ok__law_error (w := w) (base := base) T
  refine funN T.F__law_right sc__law_right (fun vs H Q E h => ?_) (fun cdv A outer s H vs Q E hr h => ?_)
  · obtain ⟨t, rfl, _⟩ := h
    rfl
  · obtain ⟨t, rfl, ht, ha, q⟩ := h
    refine ⟨_, (pssn_cons (psn_of (ps_set (i := 1) sc__law_right.nd rfl (Or.inl rfl) (pe_call G__law_is_program (hr.mono (by first | decide | omega)) rfl T.m__law_is_program T.F__law_is_program.kp T.b__law_is_program .nil pass0 (pa_cons (pv 0) pa_nil)))) (pssn_cons (psn_if (ptn_w (pwn_or (ptn_of (pt_cmpR op_ne (pe_call G_is_program (hr.mono (by first | decide | omega)) rfl T.m_is_program T.F_is_program.kp T.b_is_program .nil pass0 (pa_cons (pv 0) pa_nil)) (pv 1) (nomark _))) (pwn_or1 (ptn_cmpR (op_neD hr.units) (pen_lc (own := [("_law_function", 3)]) (g := (gName 3)) (tt := tYes) (by rfl) sc__law_right.nd (pi_range1 (by rfl) T.z_range (pa_cons pe_int pa_nil)) (blkOk_by (own := [("_law_function", 3)]) (N := ["_law_text", "_law_valid", "_law_other", "_law_function", "_law_step"]) (sc := defScope s__law_right) (by decide +kernel)) (fun _ _ _ _ _ => pg_name (i := 3) sc__law_right.nd rfl (Or.inl rfl)) (fun _ _ _ _ _ => (ptsn_of pts_nil)) (fun _ _ _ _ _ => (pen_call G__law_error (hr.mono (by first | decide | omega)) rfl T.m__law_error T.F__law_error.kp T.b__law_error .nil pass0 (pan_of (pa_cons (pv 3) (pa_cons (pv 0) pa_nil)))))) (pen_of (pe_op op_rep (pe_lst (pa_cons (pe_not (pv 1)) pa_nil)) pe_int)) (nomark _))))) (pssn_of (pss_one (ps_ret pe_bl))) (pssn_of pss_nil)) (pssn_of (pss_cons (ps_setLc (i := 2) (own := [("_law_step", 4)]) (g := (gName 4)) (by rfl) sc__law_right.nd rfl rfl (sw_true rfl rfl rfl (by decide +kernel)) (pi_str (pv 0)) (blkOk_by (own := [("_law_step", 4)]) (N := ["_law_text", "_law_valid", "_law_other", "_law_function", "_law_step"]) (sc := defScope s__law_right) (by decide +kernel)) (fun _ _ _ _ _ => pg_name (i := 4) sc__law_right.nd rfl (Or.inl rfl)) (fun _ _ _ _ _ => (pts_one (pt_cmpR op_notIn_sign (pv 4) pe_str (by rfl)))) (fun _ _ _ _ _ => (pv 4)))
      (pss_one (ps_ret (pe_cmpR op_eq (pe_call G_is_sequence (hr.mono (by first | decide | omega)) rfl T.m_is_sequence T.F_is_sequence.kp T.b_is_sequence .nil pass0 (pa_cons (pv 0) pa_nil)) (pe_cmpR (op_eqD hr.units) (pv 2) (pe_lst pa_nil) (nomark _)) (nomark _)))))))), ?_⟩
    have hst : start ["_law_text", "_law_valid", "_law_other", "_law_function", "_law_step"] [.str t] = [some (.str t), none, none, none, none] := rfl
    rw [hst]
    walk_at "rd"
    refine ⟨by omega, .str _ (by omega), fun H1 s1 => ?_⟩
    rw [show progV (.str t) = rpt (tl t) from rfl, decide_eq_true rfl, Bool.not_true, if_neg (by decide)]
    generalize hb : (!(rpt (tl t)).isSome) = b
    refine lcR fun R kR => ?_
    walk_at "rd"
    refine kR 4 H1 (by decide) (by decide) fun D hD => ⟨fun j H' => Same H1 H' ∧ H' D = some (.lst ((List.replicate j b).map V.bl)), ⟨same_new hD _, upd_same⟩, ?_, ?_⟩
    · rintro j H' hj ⟨s2, hDD⟩
      have hj4 : j < 4 := hj
      walk_at "wp"
      walk_at "rd"
      simp only [Int.zero_add]
      refine ⟨j, .str t, rfl, .str _ (by omega), by omega, .inr hj4, fun H2 s3 => ⟨_, s3 _ _ hDD, ?_, ?_, ?_⟩⟩
      · rw [List.length_map, List.length_replicate]
        exact Nat.lt_of_le_of_lt (by omega : j ≤ 100000) (by decide)
      · exact same_mut (s2.trans s3) hD
      · rw [upd_same, show progV (.str t) = rpt (tl t) from rfl, hb, List.replicate_succ', List.map_append]; rfl
    · rintro H2 ⟨s2, hDD⟩
      have hDD : H2 D = some (.lst ((List.replicate 4 b).map V.bl)) := hDD
      walk_at "rd"
      refine ⟨by walk_at "sz", fun p hp => ⟨p, 4, _, rfl, rfl, upd_same, by decide, by decide, by walk_at "sz", fun p2 hp2 => ?_⟩⟩
      have s3 := (same_new hp (.lst [V.bl b])).trans (same_new hp2 (.lst (List.replicate (Int.toNat 4) [V.bl b]).flatten))
      refine ne_bools (bs := List.replicate 4 b) (cs := List.replicate 4 b) (SqL.of (s3 _ _ hDD)) (SqL.of upd_same) ⟨_, rfl, ?_⟩
      rw [decide_eq_true rfl, Bool.not_true, if_neg (by decide)]
      have S := s1.trans (s2.trans s3)
      generalize upd (upd H2 p (.lst [V.bl b])) p2 (.lst (List.replicate (Int.toNat 4) [V.bl b]).flatten) = H3 at S ⊢
      refine lcS fun R kR => ?_
      walk_at "rd"
      refine kR t H3 fun D2 hD2 => ⟨fun j H' => Same H3 H' ∧ H' D2 = some (.lst ((((tl t).take j).filter (fun c => !isStep c)).map fun c => V.str (sg c))), ⟨same_new hD2 _, upd_same⟩, ?_, ?_⟩
      · rintro j c H' hc ⟨s4, hDD2⟩
        walk_at "wp"
        walk_at "rd"
        have hj := (List.getElem?_eq_some_iff.mp hc).1
        rw [tl_len] at hj
        have hst := congrFun mem_steps c
        have et : (tl t).take (j + 1) = (tl t).take j ++ [c] := by rw [List.take_add_one, hc]; rfl
        refine ⟨c, rfl, ?_⟩
        rw [hst]
        cases hs : isStep c with
        | true =>
          rw [Bool.not_true, if_neg (by decide)]
          refine ⟨s4, ?_⟩
          rw [hDD2, et, List.filter_append, List.filter_cons_of_neg (by rw [hs]; decide), List.filter_nil, List.append_nil]
        | false =>
          rw [Bool.not_false, if_pos rfl]
          refine ⟨_, hDD2, ?_, same_mut s4 hD2, ?_⟩
          · rw [List.length_map]
            refine Nat.lt_of_le_of_lt (Nat.le_trans (List.length_filter_le _ _) (by rw [List.length_take]; omega : _ ≤ 100000)) (by decide)
          · rw [upd_same, et, List.filter_append, List.filter_cons_of_pos (by rw [hs]; rfl), List.filter_nil, List.map_append]; rfl
      · rintro H4 ⟨s4, hDD2⟩
        walk_at "rd"
        rw [List.take_length] at hDD2
        refine ⟨.str _ (by omega), fun z e => (by cases e; exact ht), by walk_at "sz", fun p5 hp5 => ?_⟩
        have s5 := same_new hp5 (.lst [])
        refine eq_lists (SqL.of (s5 _ _ hDD2)) (SqL.of upd_same) (by
          rw [List.all_map, List.all_eq_true]
          intro c hc
          have := of_decide_eq_true (List.all_eq_true.mp ha c (List.mem_filter.mp hc).1)
          exact sg_ok this) rfl ?_
        rw [eqL_nil]
        refine ⟨rfl, ?_⟩
        have e : decide (V.bl (seqV (.str t)) = V.bl (((List.filter (fun c => !isStep c) (tl t)).map fun c => V.str (sg c)).isEmpty)) = true := by
          rw [decide_eq_true_eq]
          congr 1
          show (tl t).all isStep = _
          rw [List.isEmpty_map]
          induction (tl t) with
          | nil => rfl
          | cons c l ih =>
            rw [List.all_cons, List.filter_cons]
            cases hs : isStep c with
            | true => rw [Bool.true_and, ih]; rfl
            | false => rfl
        rw [e]
        exact q _ (S.trans (s4.trans s5))
def notStar : Expr → Bool
  | .Starred .. => false
  | _ => true
theorem star_q {e : Expr} {es : List Expr} {env : Env} (h : notStar e = true) : starEach (e :: es) env = (false, eval e env) :: starEach es env := by
  cases e <;> first | rfl | cases h
theorem pa_q {X : Cx} {e : Expr} {es : List Expr} {te : TE} {t : TA} (ha : PE X e te) (hr : PA X es t) (hn : notStar e = true := by rfl) : PA X (e :: es) (tCons te t) := pa_cons ha hr (star_q hn)
def deepS : Str := srep (Str.ofString "(") (Int.toNat 20) ++ Str.ofString "a" ++ srep (Str.ofString ")1") (Int.toNat 20)
def goodL : List Str := [srep (Str.ofString "()1") (Int.toNat 30), Str.ofString "defghijklmnopqrstuvw", Str.ofString "", Str.ofString "()0", Str.ofString "(a)1000000000000000000000000000000", deepS, Str.ofString "a-b(-)10c", Str.ofString "((a)2(b)3)4"]
def wrongL : List Str := [Str.ofString "(a)", Str.ofString "(a)01", Str.ofString "(a)1000000000000000000000000000001", Str.ofString "(" ++ deepS ++ Str.ofString ")1", Str.ofString "a1", Str.ofString ")1", Str.ofString "(a", Str.ofString "(a)2)2", Str.ofString "A", Str.ofString "a b"]
def fitT (b : Bool) (t : Str) : Bool := decide (t.length ≤ 10000) && (tl t).all (fun c => decide (c < 128)) && ((rpt (tl t)).isSome == b)
theorem good_fit : goodL.all (fitT true) = true := by decide +kernel
theorem wrong_fit : wrongL.all (fitT false) = true := by decide +kernel
theorem fit_of {b : Bool} {t : Str} (h : fitT b t = true) : t.length ≤ 10000 ∧ (tl t).all (fun c => decide (c < 128)) = true ∧ (rpt (tl t)).isSome = b := by
  unfold fitT at h
  rw [Bool.and_eq_true, Bool.and_eq_true] at h
  exact ⟨of_decide_eq_true h.1.1, h.1.2, beq_iff_eq.mp h.2⟩
theorem cut_all {p : Nat → Bool} {z : Str} (h : (tl z).all p = true) (lo hi : Option Int) : (tl (cutS z lo hi)).all p = true := by
  rw [List.all_eq_true] at h ⊢
  intro c hc
  have hc : c ∈ ((tl z).drop (HT.sIx z.length 0 lo)).take (HT.sIx z.length z.length hi - HT.sIx z.length 0 lo) := hc
  exact h c (List.mem_of_mem_drop (List.mem_of_mem_take hc))
theorem Pr.ascii {d t f} (h : Pr d t f) : t.all (fun c => decide (c < 128)) = true := by
  induction h with
  | nil => rfl
  | @step d c t f hc _ ih =>
    rw [List.all_cons, ih, Bool.and_true, decide_eq_true_eq]
    simp only [isStep, isLet, Bool.or_eq_true, Bool.and_eq_true, decide_eq_true_eq] at hc
    omega
  | @rep d n ti fi t f h1 hn h2 ih1 ih2 =>
    have hd : (digs n).all (fun c => decide (c < 128)) = true := by
      rw [List.all_eq_true]
      intro c hc
      have := List.all_eq_true.mp (digs_dig n) c hc
      simp only [isDig, Bool.and_eq_true, decide_eq_true_eq] at this
      rw [decide_eq_true_eq]; omega
    rw [List.all_cons, List.all_append, List.all_cons, List.all_append, ih1, ih2, hd]
    rfl
def spLaw (K : PySem.W.Frag) : Sp := fun vs H Q _ => ∃ (a : Addr) (ns : List Int), vs = [.ref a] ∧ SqL K H a (ns.map V.int) ∧ ns.length ≤ 63 ∧ ∀ H', Q (.bl true) H'
theorem ok_law (T : Top K mg) : FnOkN 343 P w K mg base CX0 47 T.a_law T.d_law ["_law_script"] (spLaw K) := by
  have G__law_draws := ok__law_draws (w := w) (base := base) T
  have G__law_draw := ok__law_draw (w := w) (base := base) T
  have G_is_program := ok_is_program (w := w) (base := base) T
  have G_is_sequence := ok_is_sequence (w := w) (base := base) T
  have G__law_program := ok__law_program (w := w) (base := base) T
  have G__law_error := ok__law_error (w := w) (base := base) T
  have G__law_right := ok__law_right (w := w) (base := base) T
  refine funN T.F_law sc_law (fun vs H Q E h => ?_) (fun cdv A outer s H vs Q E hr h => ?_)
  · obtain ⟨a, ns, rfl, _⟩ := h
    rfl
  · obtain ⟨a, ns, rfl, hS, hl, q⟩ := h
    refine' ⟨_, (pssn_cons (psn_for PassesOwn.never rfl (pi_list (pe_lst (pa_q pe_non (pa_q pe_int (pa_q pe_bl (pa_q (pe_lst (pa_cons pe_str pa_nil)) (pa_q (pe_tup (pa_cons pe_str pa_nil)) (pa_q pe_dnewK pa_nil)))))))) (pg_name (i := 1) sc_law.nd rfl (Or.inr rfl)) (pssn_cons ?s0 (pssn_one ?s1))) (pssn_cons ?s2 (pssn_cons ?s3 (pssn_cons ?s4 (pssn_cons ?s5 (pssn_cons ?s6 (pssn_cons ?s7 (pssn_cons ?s8 (pssn_cons (psn_for PassesOwn.never rfl (pi_range1 (by rfl) T.z_range (pa_cons (pe_callB (call_max2 rfl) (by rfl) T.z_max (by decide +kernel) (pa_cons pe_int (pa_cons (pe_callB (call_min2 rfl) (by rfl) T.z_min (by decide +kernel) (pa_cons pe_int (pa_cons (pe_callB call_len_seq (by rfl) T.z_len (by decide +kernel) (pa_cons (pv 0) pa_nil)) pa_nil))) pa_nil))) pa_nil)) (pg_name (i := 5) sc_law.nd rfl (Or.inl rfl)) (pssn_cons ?s9 (pssn_cons ?s10 (pssn_cons ?s11 (pssn_cons ?s12 (pssn_cons ?s13 (pssn_one ?s15))))))) (pssn_one ?s16)))))))))), ?rest⟩
    case s0 => exact (psn_of (ps_if (PW.pt (pw_or (pt_val (pe_call G_is_program (hr.mono (by first | decide | omega)) rfl T.m_is_program T.F_is_program.kp T.b_is_program .nil pass0 (pa_cons (pv 1) pa_nil))) (pw_or1 (pt_val (pe_call G_is_sequence (hr.mono (by first | decide | omega)) rfl T.m_is_sequence T.F_is_sequence.kp T.b_is_sequence .nil pass0 (pa_cons (pv 1) pa_nil)))))) (pss_one (ps_ret pe_bl)) pss_nil))
    case s1 => exact (psn_if (ptn_cmpR (op_neD hr.units) (pen_lc (own := [("_law_function", 11)]) (g := (gName 11)) (tt := tYes) (by rfl) sc_law.nd (pi_range1 (by rfl) T.z_range (pa_cons pe_int pa_nil)) (blkOk_by (own := [("_law_function", 11)]) (N := ["_law_script", "_law_value", "_law_deep", "_law_good", "_law_bad", "_law_k", "_law_draws_here", "_law_text", "_law_at", "_law_extra", "_law_some", "_law_function"]) (sc := defScope s_law) (by decide +kernel)) (fun _ _ _ _ _ => pg_name (i := 11) sc_law.nd rfl (Or.inl rfl)) (fun _ _ _ _ _ => (ptsn_of pts_nil)) (fun _ _ _ _ _ => (pen_call G__law_error (hr.mono (by first | decide | omega)) rfl T.m__law_error T.F__law_error.kp T.b__law_error .nil pass0 (pan_of (pa_cons (pv 11) (pa_cons (pv 1) pa_nil)))))) (pen_of (pe_op op_rep (pe_lst (pa_cons pe_bl pa_nil)) pe_int)) (nomark _)) (pssn_of (pss_one (ps_ret pe_bl))) (pssn_of pss_nil))
    case s2 => exact (psn_of (ps_set (i := 2) sc_law.nd rfl (Or.inl rfl) (pe_op op_add_str (pe_op op_add_str (pe_op op_rep_str pe_str pe_int) pe_str) (pe_op op_rep_str pe_str pe_int))))
    case s3 => exact (psn_of (ps_set (i := 3) sc_law.nd rfl (Or.inl rfl) (pe_lst (pa_q (pe_op op_rep_str pe_str pe_int) (pa_q pe_str (pa_q pe_str (pa_q pe_str (pa_q pe_str (pa_q (pv 2) pa_nil)))))))))
    case s4 => exact (psn_of (ps_set (i := 3) sc_law.nd rfl (Or.inl rfl) (pe_op op_cat (pv 3) (pe_lst (pa_cons pe_str (pa_cons pe_str pa_nil))))))
    case s5 => exact (psn_of (ps_set (i := 4) sc_law.nd rfl (Or.inl rfl) (pe_lst (pa_q pe_str (pa_q pe_str (pa_q pe_str (pa_q (pe_op op_add_str (pe_op op_add_str pe_str (pv 2)) pe_str) (pa_q pe_str (pa_q pe_str pa_nil)))))))))
    case s6 => exact (psn_of (ps_set (i := 4) sc_law.nd rfl (Or.inl rfl) (pe_op op_cat (pv 4) (pe_lst (pa_q pe_str (pa_q pe_str (pa_q pe_str (pa_q pe_str pa_nil))))))))
    case s7 => exact (psn_if (ptn_cmpR (op_neD hr.units) (pen_lc (own := [("_law_text", 7)]) (g := (gName 7)) (by rfl) sc_law.nd (pi_list (pv 3)) (blkOk_by (own := [("_law_text", 7)]) (N := ["_law_script", "_law_value", "_law_deep", "_law_good", "_law_bad", "_law_k", "_law_draws_here", "_law_text", "_law_at", "_law_extra", "_law_some", "_law_function"]) (sc := defScope s_law) (by decide +kernel)) (fun _ _ _ _ _ => pg_name (i := 7) sc_law.nd rfl (Or.inl rfl)) (fun _ _ _ _ _ => (ptsn_one (ptn_w (pwn_or (ptn_not (ptn_val (pen_call G__law_right (hr.mono (by first | decide | omega)) rfl T.m__law_right T.F__law_right.kp T.b__law_right .nil pass0 (pan_of (pa_cons (pv 7) pa_nil))))) (pwn_of (pw_or1 (pt_not (pt_val (pe_call G_is_program (hr.mono (by first | decide | omega)) rfl T.m_is_program T.F_is_program.kp T.b_is_program .nil pass0 (pa_cons (pv 7) pa_nil)))))))))) (fun _ _ _ _ _ => (pen_of (pv 7)))) (pen_of (pe_lst pa_nil)) (nomark _)) (pssn_of (pss_one (ps_ret pe_bl))) (pssn_of pss_nil))
    case s8 => exact (psn_if (ptn_cmpR (op_neD hr.units) (pen_lc (own := [("_law_text", 7)]) (g := (gName 7)) (by rfl) sc_law.nd (pi_list (pv 4)) (blkOk_by (own := [("_law_text", 7)]) (N := ["_law_script", "_law_value", "_law_deep", "_law_good", "_law_bad", "_law_k", "_law_draws_here", "_law_text", "_law_at", "_law_extra", "_law_some", "_law_function"]) (sc := defScope s_law) (by decide +kernel)) (fun _ _ _ _ _ => pg_name (i := 7) sc_law.nd rfl (Or.inl rfl)) (fun _ _ _ _ _ => (ptsn_one (ptn_w (pwn_or (ptn_not (ptn_val (pen_call G__law_right (hr.mono (by first | decide | omega)) rfl T.m__law_right T.F__law_right.kp T.b__law_right .nil pass0 (pan_of (pa_cons (pv 7) pa_nil))))) (pwn_of (pw_or1 (pt_val (pe_call G_is_program (hr.mono (by first | decide | omega)) rfl T.m_is_program T.F_is_program.kp T.b_is_program .nil pass0 (pa_cons (pv 7) pa_nil))))))))) (fun _ _ _ _ _ => (pen_of (pv 7)))) (pen_of (pe_lst pa_nil)) (nomark _)) (pssn_of (pss_one (ps_ret pe_bl))) (pssn_of pss_nil))
    case s9 => exact (psn_of (ps_set (i := 6) sc_law.nd rfl (Or.inl rfl) (pe_call G__law_draws (hr.mono (by first | decide | omega)) rfl T.m__law_draws T.F__law_draws.kp T.b__law_draws .nil pass0 (pa_cons (pv 0) (pa_cons (pv 5) pa_nil)))))
    case s10 => exact (psn_of (ps_set (i := 7) sc_law.nd rfl (Or.inl rfl) (pe_ix ix_tup (pe_call G__law_program (hr.mono (by first | decide | omega)) rfl T.m__law_program T.F__law_program.kp T.b__law_program .nil pass0 (pa_cons (pv 6) (pa_cons pe_int pa_nil))) pe_int (fun _ _ => rfl))))
    case s11 => exact (psn_of (ps_set (i := 8) sc_law.nd rfl (Or.inl rfl) (pe_call G__law_draw (hr.mono (by first | decide | omega)) rfl T.m__law_draw T.F__law_draw.kp T.b__law_draw .nil pass0 (pa_cons (pv 6) (pa_cons (pe_op op_add (pe_callB call_len_str (by rfl) T.z_len (by decide +kernel) (pa_cons (pv 7) pa_nil)) pe_int) pa_nil)))))
    case s12 => exact (psn_of (ps_set (i := 9) sc_law.nd rfl (Or.inl rfl) (pe_ix ix_str pe_str (pe_call G__law_draw (hr.mono (by first | decide | omega)) rfl T.m__law_draw T.F__law_draw.kp T.b__law_draw .nil pass0 (pa_cons (pv 6) (pa_cons pe_int pa_nil))) (fun _ _ => rfl))))
    case' s13 => refine' (psn_for PassesOwn.never rfl (pi_list (pe_lst (pa_q (pv 7) (pa_q (pe_op op_add_str (pe_op op_add_str (pe_slice sl_str (pv 7) po_none (po_some (pv 8))) (pv 9)) (pe_slice sl_str (pv 7) (po_some (pv 8)) po_none)) (pa_q (pe_op op_add_str (pe_op op_add_str (pe_slice sl_str (pv 7) po_none (po_some (pv 8))) (pv 9)) (pe_slice sl_str (pv 7) (po_some (pe_op op_add (pv 8) pe_int)) po_none)) (pa_q (pe_op op_add_str (pe_slice sl_str (pv 7) po_none (po_some (pv 8))) (pe_slice sl_str (pv 7) (po_some (pe_op op_add (pv 8) pe_int)) po_none)) pa_nil)))))) (pg_name (i := 10) sc_law.nd rfl (Or.inl rfl)) ?b13)
    case' b13 => refine' (pssn_one ?s14)
    case s14 => exact (psn_if (ptn_not (ptn_val (pen_call G__law_right (hr.mono (by first | decide | omega)) rfl T.m__law_right T.F__law_right.kp T.b__law_right .nil pass0 (pan_of (pa_cons (pv 10) pa_nil))))) (pssn_of (pss_one (ps_ret pe_bl))) (pssn_of pss_nil))
    case s15 => exact (psn_of (ps_if (pt_not (pt_val (pe_call G_is_program (hr.mono (by first | decide | omega)) rfl T.m_is_program T.F_is_program.kp T.b_is_program .nil pass0 (pa_cons (pv 7) pa_nil)))) (pss_one (ps_ret pe_bl)) pss_nil))
    case s16 => exact (psn_of (ps_ret pe_bl))
    have hst : start ["_law_script", "_law_value", "_law_deep", "_law_good", "_law_bad", "_law_k", "_law_draws_here", "_law_text", "_law_at", "_law_extra", "_law_some", "_law_function"] [.ref a] = [some (.ref a), none, none, none, none, none, none, none, none, none, none, none] := rfl
    rw [hst]
    walk_at "rd"
    refine forL fun R kR => ?_
    walk_at "rd"
    refine ⟨by walk_at "sz", fun p1 hp1 => ⟨by walk_at "sz", fun p2 hp2 p3 hp3 => ⟨by walk_at "sz", fun pl hpl => ?_⟩⟩⟩
    obtain ⟨H1, S1, h1, h2, h3, h4, e4⟩ : ∃ H1, Same H H1 ∧ H1 p1 = some (.lst [V.str (Str.ofString "a")]) ∧ H1 p2 = some (.tup [V.str (Str.ofString "a")]) ∧ H1 p3 = some (.dK []) ∧ H1 pl = some (.lst [V.non, V.int 5, V.bl true, V.ref p1, V.ref p2, V.ref p3]) ∧
        upd (upd (upd (upd H p1 (.lst [V.str (Str.ofString "a")])) p2 (.tup [V.str (Str.ofString "a")])) p3 (.dK [])) pl (.lst [V.non, V.int 5, V.bl true, V.ref p1, V.ref p2, V.ref p3]) = H1 := by
      have s1 := same_new hp1 (.lst [V.str (Str.ofString "a")])
      have s2 := same_new hp2 (.tup [V.str (Str.ofString "a")])
      have s3 := same_new hp3 (.dK [])
      have s4 := same_new hpl (.lst [V.non, V.int 5, V.bl true, V.ref p1, V.ref p2, V.ref p3])
      exact ⟨_, ((s1.trans s2).trans s3).trans s4, s4 _ _ (s3 _ _ (s2 _ _ upd_same)), s4 _ _ (s3 _ _ upd_same), s4 _ _ upd_same, upd_same, rfl⟩
    rw [e4]
    clear hp1 hp2 hp3 hpl e4
    refine kR pl _ (fun i σ H' => Same H1 H' ∧ ∃ y : Option V, σ = [some (.ref a), y, none, none, none, none, none, none, none, none, none, none]) H1 (SqL.of h4) ⟨Same.refl _, _, rfl⟩ (fun i σ H' _ h => SqL.of (h.1 _ _ h4)) ?_ ?_
    · rintro i x σ H2 hx ⟨s2, y, rfl⟩
      have hx' : Kd K H2 x ∧ progV x = none ∧ seqV x = false ∧ ∀ z, x ≠ .str z := by
        have hi := (List.getElem?_eq_some_iff.mp hx).1
        have hi : i < 6 := hi
        rcases (by omega : i = 0 ∨ i = 1 ∨ i = 2 ∨ i = 3 ∨ i = 4 ∨ i = 5) with rfl | rfl | rfl | rfl | rfl | rfl <;> cases hx
        · exact ⟨.non, rfl, rfl, fun z e => by cases e⟩
        · exact ⟨.int _, rfl, rfl, fun z e => by cases e⟩
        · exact ⟨.bl _, rfl, rfl, fun z e => by cases e⟩
        · exact ⟨kd_lst (s2 _ _ h1), rfl, rfl, fun z e => by cases e⟩
        · exact ⟨kd_tup (s2 _ _ h2), rfl, rfl, fun z e => by cases e⟩
        · exact ⟨kd_dct (s2 _ _ h3), rfl, rfl, fun z e => by cases e⟩
      obtain ⟨kx, px, sx, nx⟩ := hx'
      walk_at "rd"
      refine ⟨kx, fun H3 s3 => ?_⟩
      rw [px, Option.isSome_none, if_neg (by decide)]
      refine ⟨kd_mono s3 kx, fun z e => absurd e (nx z), ?_⟩
      rw [sx, if_neg (by decide)]
      refine lcR fun R kR => ?_
      walk_at "rd"
      refine kR 6 H3 (by decide) (by decide) fun D hD => ⟨fun j H' => Same H3 H' ∧ H' D = some (.lst ((List.replicate j true).map V.bl)), ⟨same_new hD _, upd_same⟩, ?_, ?_⟩
      · rintro j H' hj ⟨s4, hDD⟩
        have hj6 : j < 6 := hj
        walk_at "wp"
        walk_at "rd"
        simp only [Int.zero_add]
        refine ⟨j, x, rfl, kd_mono (s3.trans s4) kx, hj6, .inl px, fun H5 s5 => ⟨_, s5 _ _ hDD, ?_, ?_, ?_⟩⟩
        · rw [List.length_map, List.length_replicate]
          exact Nat.lt_of_le_of_lt (by omega : j ≤ 100000) (by decide)
        · exact same_mut (s4.trans s5) hD
        · rw [upd_same, px, List.replicate_succ', List.map_append]; rfl
      · rintro H4 ⟨s4, hDD⟩
        have hDD : H4 D = some (.lst ((List.replicate 6 true).map V.bl)) := hDD
        walk_at "rd"
        refine ⟨by walk_at "sz", fun p hp => ⟨p, 6, _, rfl, rfl, upd_same, by decide, by decide, by walk_at "sz", fun p2 hp2 => ?_⟩⟩
        have s5 := (same_new hp (.lst [V.bl true])).trans (same_new hp2 (.lst (List.replicate (Int.toNat 6) [V.bl true]).flatten))
        refine ne_bools (bs := List.replicate 6 true) (cs := List.replicate 6 true) (SqL.of (s5 _ _ hDD)) (SqL.of upd_same) ⟨_, rfl, ?_⟩
        rw [decide_eq_true rfl, Bool.not_true, if_neg (by decide)]
        exact ⟨s2.trans (s3.trans (s4.trans s5)), _, rfl⟩
    · rintro σ H2 ⟨s2, y, rfl⟩
      walk_at "rd"
      refine ⟨_, 20, rfl, rfl, by decide, by decide, by decide +kernel, _, rfl, by decide +kernel, _, 20, rfl, rfl, by decide, by decide, by decide +kernel, _, rfl, by decide +kernel, _, 30, rfl, rfl, by decide, by decide, by decide +kernel, by walk_at "sz", fun pa hpa => ⟨by walk_at "sz", fun pb hpb => ⟨pa, pb, _, _, rfl, rfl, same_new hpb _ _ _ upd_same, upd_same, by walk_at "sz", fun pg hpg => ⟨by decide +kernel, by decide +kernel, by walk_at "sz", fun pc hpc => ⟨by walk_at "sz", fun pd hpd => ⟨pc, pd, _, _, rfl, rfl, same_new hpd _ _ _ upd_same, upd_same, by walk_at "sz", fun pe hpe => ?_⟩⟩⟩⟩⟩⟩
      have ta := same_new hpa (.lst [.str (srep (Str.ofString "()1") (Int.toNat 30)), .str (Str.ofString "defghijklmnopqrstuvw"), .str (Str.ofString ""), .str (Str.ofString "()0"), .str (Str.ofString "(a)1000000000000000000000000000000"), .str deepS])
      have tb := same_new hpb (.lst [.str (Str.ofString "a-b(-)10c"), .str (Str.ofString "((a)2(b)3)4")])
      have tg := same_new hpg (.lst (goodL.map V.str))
      have tc := same_new hpc (.lst [.str (Str.ofString "(a)"), .str (Str.ofString "(a)01"), .str (Str.ofString "(a)1000000000000000000000000000001"), .str (Str.ofString "(" ++ deepS ++ Str.ofString ")1"), .str (Str.ofString "a1"), .str (Str.ofString ")1")])
      have td := same_new hpd (.lst [.str (Str.ofString "(a"), .str (Str.ofString "(a)2)2"), .str (Str.ofString "A"), .str (Str.ofString "a b")])
      have te := same_new hpe (.lst (wrongL.map V.str))
      have tS := ta.trans (tb.trans (tg.trans (tc.trans (td.trans te))))
      have hg3 := te _ _ (td _ _ (tc _ _ (upd_same (H := upd (upd H2 pa (.lst [.str (srep (Str.ofString "()1") (Int.toNat 30)), .str (Str.ofString "defghijklmnopqrstuvw"), .str (Str.ofString ""), .str (Str.ofString "()0"), .str (Str.ofString "(a)1000000000000000000000000000000"), .str deepS])) pb (.lst [.str (Str.ofString "a-b(-)10c"), .str (Str.ofString "((a)2(b)3)4")])) (a := pg) (o := .lst (goodL.map V.str)))))
      generalize hH : upd _ pe _ = H3
      replace tS : Same H2 H3 := by rw [← hH]; exact tS
      replace hg3 : H3 pg = some (.lst (goodL.map V.str)) := by rw [← hH]; exact hg3
      have he3 : H3 pe = some (.lst (wrongL.map V.str)) := by rw [← hH]; exact upd_same
      clear ta tb tg tc td te hH hpa hpb hpg hpc hpd hpe
      generalize srep (Str.ofString "(") (Int.toNat 20) ++ Str.ofString "a" ++ srep (Str.ofString ")1") (Int.toNat 20) = dp
      walk_at "rd"
      have S3 : Same H H3 := S1.trans (s2.trans tS)
      clear tS s2 h1 h2 h3 h4
      refine lcL fun R kR => ?_
      walk_at "rd"
      refine kR pg _ H3 (SqL.of hg3) fun D hD => ⟨fun j H' => Same H3 H' ∧ H' D = some (.lst []), ⟨same_new hD _, upd_same⟩, fun j H' _ h => SqL.of (h.1 _ _ hg3), ?_, ?_⟩
      · rintro j v H' hv ⟨s4, hDD⟩
        rw [List.getElem?_map] at hv
        obtain ⟨g, hg, rfl⟩ := Option.map_eq_some_iff.mp hv
        obtain ⟨f1, f2, f3⟩ := fit_of (List.all_eq_true.mp good_fit g (List.mem_of_getElem? hg))
        walk_at "wp"
        walk_at "rd"
        refine ⟨g, rfl, f1, f2, fun H5 s5 => ⟨_, rfl, ?_⟩⟩
        rw [Bool.not_true, if_neg (by decide)]
        refine ⟨.str _ (by omega), fun H6 s6 => ?_⟩
        rw [show progV (.str g) = rpt (tl g) from rfl, f3, Bool.not_true, if_neg (by decide)]
        exact ⟨s4.trans (s5.trans s6), s6 _ _ (s5 _ _ hDD)⟩
      · rintro H4 ⟨s4, hDD⟩
        walk_at "rd"
        refine ⟨by walk_at "sz", fun q1 hq1 => ?_⟩
        have s5 := same_new hq1 (.lst [])
        refine ne_lists (SqL.of (s5 _ _ hDD)) (SqL.of upd_same) rfl rfl ⟨_, rfl, ?_⟩
        rw [eqL_nil, if_neg (by decide)]
        have S5 := s4.trans s5
        have he5 := S5 _ _ he3
        replace S5 := S3.trans S5
        generalize upd H4 q1 (.lst []) = H5 at S5 he5 ⊢
        clear hDD s4 s5 hq1
        refine lcL fun R kR => ?_
        walk_at "rd"
        refine kR pe _ H5 (SqL.of he5) fun D hD => ⟨fun j H' => Same H5 H' ∧ H' D = some (.lst []), ⟨same_new hD _, upd_same⟩, fun j H' _ h => SqL.of (h.1 _ _ he5), ?_, ?_⟩
        · rintro j v H' hv ⟨s4, hDD⟩
          rw [List.getElem?_map] at hv
          obtain ⟨g, hg, rfl⟩ := Option.map_eq_some_iff.mp hv
          obtain ⟨f1, f2, f3⟩ := fit_of (List.all_eq_true.mp wrong_fit g (List.mem_of_getElem? hg))
          walk_at "wp"
          walk_at "rd"
          refine ⟨g, rfl, f1, f2, fun H5 s5 => ⟨_, rfl, ?_⟩⟩
          rw [Bool.not_true, if_neg (by decide)]
          refine ⟨.str _ (by omega), fun H6 s6 => ?_⟩
          rw [show progV (.str g) = rpt (tl g) from rfl, f3, if_neg (by decide)]
          exact ⟨s4.trans (s5.trans s6), s6 _ _ (s5 _ _ hDD)⟩
        · rintro H6 ⟨s6, hDD⟩
          walk_at "rd"
          refine ⟨by walk_at "sz", fun q2 hq2 => ?_⟩
          have s7 := same_new hq2 (.lst [])
          refine ne_lists (SqL.of (s7 _ _ hDD)) (SqL.of upd_same) rfl rfl ⟨_, rfl, ?_⟩
          rw [eqL_nil, if_neg (by decide)]
          have S7 := S5.trans (s6.trans s7)
          generalize upd H6 q2 (.lst []) = H7 at S7 ⊢
          clear hDD s6 s7 hq2 S5 he5
          refine forR fun R kR => ?_
          walk_at "rd"
          refine ⟨_, .inl (S7.seq hS), ?_⟩
          rw [List.length_map]
          refine kR _ (fun i σ H' => Same H H' ∧ ∃ x5 x6 x7 x8 x9 x10 : Option V, σ = [some (.ref a), y, some (.str dp), some (.ref pg), some (.ref pe), x5, x6, x7, x8, x9, x10, none]) H7 (by split <;> split <;> omega) (by split <;> split <;> omega) ⟨S7, _, _, _, _, _, _, rfl⟩ ?_ ?_
          · rintro i σ H5 hi ⟨s6, x5, x6, x7, x8, x9, x10, rfl⟩
            have hi40 : i < 64 := by
              revert hi
              split <;> split <;> omega
            clear hi
            walk_at "rd"
            simp only [sp_draws]
            refine ⟨a, ns, 0 + (i : Int), rfl, s6.seq hS, hl, by omega, by omega, fun p d H6 s7 hp7 hd hp8 => ?_⟩
            walk_at "rd"
            have hpn := s6.free hp7
            have S0 : Same H H6 := s6.trans s7
            simp only [sp_prog]
            refine ⟨p, d, 3, rfl, hp8, hd, by decide, by decide, fun r zt zf d2 H7 hPr hlt hlf hd2 hp9 k2 hr1 hr2 => ?_⟩
            have S1 : Same H H7 := same_but S0 hpn k2
            refine ⟨r, [.str zt, .str zf], 0, _, rfl, rfl, SqT.of hr2, rfl, ?_⟩
            have L4 : Lt (3 + 1) = 720 := by decide
            rw [L4] at hlt
            obtain ⟨ps, er, _⟩ := rpt_of hPr (by decide)
            have hasc := Pr.ascii hPr
            clear hr1 hr2 hlf hPr k2 hd hp8
            refine ⟨zt, rfl, sz_of (by omega), ?_⟩
            simp only [sp_draw]
            refine ⟨p, d2, (zt.length : Int) + 1, rfl, hp9, hd2, by omega, by omega, fun at_ d3 H8 a0 a1 hd3 hp10 k3 => ?_⟩
            refine ⟨p, d3, 9, rfl, hp10, hd3, by decide, by decide, fun w1 d4 H9 w10 w11 hd4 hp11 k4 => ?_⟩
            have S2 : Same H H9 := same_but (same_but S1 hpn k3) hpn k4
            obtain ⟨c, hc, hca⟩ : ∃ c, (Str.ofString "a-()019 A").cps.toList[w1.toNat]? = some c ∧ c < 128 := by
              have key : ∀ k : Nat, k < 9 → ∃ c, (Str.ofString "a-()019 A").cps.toList[k]? = some c ∧ c < 128 := by
                intro k hk
                rcases (by omega : k = 0 ∨ k = 1 ∨ k = 2 ∨ k = 3 ∨ k = 4 ∨ k = 5 ∨ k = 6 ∨ k = 7 ∨ k = 8) with rfl | rfl | rfl | rfl | rfl | rfl | rfl | rfl | rfl <;> exact ⟨_, rfl, by decide⟩
              exact key _ (by omega)
            refine ix_str_at (by decide +kernel) w10 hc ?_
            refine forL fun R kR => ?_
            walk_at "rd"
            have la : ∀ x y : Str, (x ++ y).length = x.length + y.length := fun x y => by rw [← tl_len, ← tl_len, ← tl_len, tl_app, List.length_append]
            have fit : ∀ lo hi, (cutS zt lo hi).length ≤ 720 ∧ (tl (cutS zt lo hi)).all (fun c => decide (c < 128)) = true := fun lo hi => ⟨Nat.le_trans (cutS_length _ _ _) hlt, cut_all hasc lo hi⟩
            have fc : (⟨#[c]⟩ : Str).length ≤ 720 ∧ (tl (⟨#[c]⟩ : Str)).all (fun c => decide (c < 128)) = true := ⟨by show 1 ≤ 720; decide, by show (decide (c < 128) && true) = true; rw [decide_eq_true hca]; rfl⟩
            have fa : ∀ {x y : Str} {m k : Nat}, x.length ≤ m ∧ (tl x).all (fun c => decide (c < 128)) = true → y.length ≤ k ∧ (tl y).all (fun c => decide (c < 128)) = true → (x ++ y).length ≤ m + k ∧ (tl (x ++ y)).all (fun c => decide (c < 128)) = true := fun {x y m k} hx hy => ⟨by rw [la]; omega, by rw [tl_app, List.all_append, hx.2, hy.2]; rfl⟩
            have g1 := fit none (some at_)
            have g2 := fit (some at_) none
            have g3 := fit (some (at_ + 1)) none
            refine ⟨zt, rfl, sz_of (by omega), _, rfl, sz_of (by omega), zt, rfl, sz_of (by omega), _, rfl, sz_of (by have := (fa g1 fc).1; omega), zt, rfl, sz_of (by omega), _, rfl, sz_of (by omega), zt, rfl, sz_of (by omega), _, rfl, sz_of (by have := (fa g1 fc).1; omega), zt, rfl, sz_of (by omega), zt, rfl, sz_of (by omega), _, rfl, _, rfl, sz_of (by omega), by walk_at "sz", fun pf hpf => ?_⟩
            have k1 := fa (fa g1 fc) g2
            have k2 := fa (fa g1 fc) g3
            have k3 := fa g1 g3
            generalize cutS zt none (some at_) ++ (⟨#[c]⟩ : Str) ++ cutS zt (some at_) none = u1 at k1 hpf ⊢
            generalize cutS zt none (some at_) ++ (⟨#[c]⟩ : Str) ++ cutS zt (some (at_ + 1)) none = u2 at k2 hpf ⊢
            generalize cutS zt none (some at_) ++ cutS zt (some (at_ + 1)) none = u3 at k3 hpf ⊢
            have S3 := S2.trans (same_new hpf (.lst [V.str zt, .str u1, .str u2, .str u3]))
            have hpf1 := upd_same (H := H9) (a := pf) (o := .lst [V.str zt, .str u1, .str u2, .str u3])
            generalize upd H9 pf (.lst [V.str zt, .str u1, .str u2, .str u3]) = H10 at S3 hpf1 ⊢
            clear hp9 hp10 hp11 k4 S2 hc hpf S1 S0
            refine kR pf _ (fun j σ H' => Same H10 H' ∧ ∃ z10 : Option V, σ = [some (.ref a), y, some (.str dp), some (.ref pg), some (.ref pe), some (.int (0 + (i : Int))), some (.ref p), some (.str zt), some (.int at_), some (.str ⟨#[c]⟩), z10, none]) H10 (SqL.of hpf1) ⟨Same.refl _, _, rfl⟩ (fun j σ H' _ h => SqL.of (h.1 _ _ hpf1)) ?_ ?_
            · rintro j v σ H11 hv ⟨s11, z10, rfl⟩
              have hv' : ∃ u : Str, v = .str u ∧ u.length ≤ 10000 ∧ (tl u).all (fun c => decide (c < 128)) = true := by
                have hj : j < 4 := (List.getElem?_eq_some_iff.mp hv).1
                rcases (by omega : j = 0 ∨ j = 1 ∨ j = 2 ∨ j = 3) with rfl | rfl | rfl | rfl <;> cases hv
                · exact ⟨_, rfl, by omega, hasc⟩
                · exact ⟨_, rfl, by omega, k1.2⟩
                · exact ⟨_, rfl, by omega, k2.2⟩
                · exact ⟨_, rfl, by omega, k3.2⟩
              obtain ⟨u, rfl, u1, u2⟩ := hv'
              walk_at "rd"
              refine ⟨u, rfl, u1, u2, fun H12 s12 => ⟨_, rfl, ?_⟩⟩
              rw [Bool.not_true, if_neg (by decide)]
              exact ⟨s11.trans s12, _, rfl⟩
            · rintro σ H11 ⟨s11, z10, rfl⟩
              walk_at "rd"
              refine ⟨.str _ (by omega), fun H12 s12 => ?_⟩
              rw [show progV (.str zt) = rpt (tl zt) from rfl, er, Option.isSome_some, Bool.not_true, if_neg (by decide)]
              exact ⟨S3.trans (s11.trans s12), ⟨_, rfl⟩, ⟨_, rfl⟩, ⟨_, rfl⟩, ⟨_, rfl⟩, ⟨_, rfl⟩, ⟨_, rfl⟩⟩
          · rintro σ H5 ⟨s6, x5, x6, x7, x8, x9, x10, rfl⟩
            walk_at "rd"
            exact q H5

end
theorem all_mk {w : World} {K : PySem.W.Frag} {h : Heap} {mg : Str → Option Value} {fa : Addr} (X : K.In h) (G : h.Ns mainGlobals mg) (hfa : mg "law" = some (.ref fa))
    {f_is_int : Addr} {oc_is_int kV_is_int dc_is_int pm_is_int cd_is_int ct_is_int : Value} {od_is_int an_is_int : Option Addr} {sl_is_int : Array (Option Value)}
    {f_is_natural : Addr} {oc_is_natural kV_is_natural dc_is_natural pm_is_natural cd_is_natural ct_is_natural : Value} {od_is_natural an_is_natural : Option Addr} {sl_is_natural : Array (Option Value)}
    {f_is_int_between : Addr} {oc_is_int_between kV_is_int_between dc_is_int_between pm_is_int_between cd_is_int_between ct_is_int_between : Value} {od_is_int_between an_is_int_between : Option Addr} {sl_is_int_between : Array (Option Value)}
    {f_read_integer : Addr} {oc_read_integer kV_read_integer dc_read_integer pm_read_integer cd_read_integer ct_read_integer : Value} {od_read_integer an_read_integer : Option Addr} {sl_read_integer : Array (Option Value)}
    {f_is_program : Addr} {oc_is_program kV_is_program dc_is_program pm_is_program cd_is_program ct_is_program : Value} {od_is_program an_is_program : Option Addr} {sl_is_program : Array (Option Value)}
    {f_is_sequence : Addr} {oc_is_sequence kV_is_sequence dc_is_sequence pm_is_sequence cd_is_sequence ct_is_sequence : Value} {od_is_sequence an_is_sequence : Option Addr} {sl_is_sequence : Array (Option Value)}
    {f_is_count : Addr} {oc_is_count kV_is_count dc_is_count pm_is_count cd_is_count ct_is_count : Value} {od_is_count an_is_count : Option Addr} {sl_is_count : Array (Option Value)}
    {f_check_count : Addr} {oc_check_count kV_check_count dc_check_count pm_check_count cd_check_count ct_check_count : Value} {od_check_count an_check_count : Option Addr} {sl_check_count : Array (Option Value)}
    {f_count_steps : Addr} {oc_count_steps kV_count_steps dc_count_steps pm_count_steps cd_count_steps ct_count_steps : Value} {od_count_steps an_count_steps : Option Addr} {sl_count_steps : Array (Option Value)}
    {f_write_out : Addr} {oc_write_out kV_write_out dc_write_out pm_write_out cd_write_out ct_write_out : Value} {od_write_out an_write_out : Option Addr} {sl_write_out : Array (Option Value)}
    {f_last_puts : Addr} {oc_last_puts kV_last_puts dc_last_puts pm_last_puts cd_last_puts ct_last_puts : Value} {od_last_puts an_last_puts : Option Addr} {sl_last_puts : Array (Option Value)}
    {f_repeat : Addr} {oc_repeat kV_repeat dc_repeat pm_repeat cd_repeat ct_repeat : Value} {od_repeat an_repeat : Option Addr} {sl_repeat : Array (Option Value)}
    {f_parts_of : Addr} {oc_parts_of kV_parts_of dc_parts_of pm_parts_of cd_parts_of ct_parts_of : Value} {od_parts_of an_parts_of : Option Addr} {sl_parts_of : Array (Option Value)}
    {f_read_parts : Addr} {oc_read_parts kV_read_parts dc_read_parts pm_read_parts cd_read_parts ct_read_parts : Value} {od_read_parts an_read_parts : Option Addr} {sl_read_parts : Array (Option Value)}
    {f_end_of_run : Addr} {oc_end_of_run kV_end_of_run dc_end_of_run pm_end_of_run cd_end_of_run ct_end_of_run : Value} {od_end_of_run an_end_of_run : Option Addr} {sl_end_of_run : Array (Option Value)}
    {f_count_part_steps : Addr} {oc_count_part_steps kV_count_part_steps dc_count_part_steps pm_count_part_steps cd_count_part_steps ct_count_part_steps : Value} {od_count_part_steps an_count_part_steps : Option Addr} {sl_count_part_steps : Array (Option Value)}
    {f_last_letters : Addr} {oc_last_letters kV_last_letters dc_last_letters pm_last_letters cd_last_letters ct_last_letters : Value} {od_last_letters an_last_letters : Option Addr} {sl_last_letters : Array (Option Value)}
    {f_last_letters_of_part : Addr} {oc_last_letters_of_part kV_last_letters_of_part dc_last_letters_of_part pm_last_letters_of_part cd_last_letters_of_part ct_last_letters_of_part : Value} {od_last_letters_of_part an_last_letters_of_part : Option Addr} {sl_last_letters_of_part : Array (Option Value)}
    {f_ending : Addr} {oc_ending kV_ending dc_ending pm_ending cd_ending ct_ending : Value} {od_ending an_ending : Option Addr} {sl_ending : Array (Option Value)}
    {f_is_capacity : Addr} {oc_is_capacity kV_is_capacity dc_is_capacity pm_is_capacity cd_is_capacity ct_is_capacity : Value} {od_is_capacity an_is_capacity : Option Addr} {sl_is_capacity : Array (Option Value)}
    {f_is_mode : Addr} {oc_is_mode kV_is_mode dc_is_mode pm_is_mode cd_is_mode ct_is_mode : Value} {od_is_mode an_is_mode : Option Addr} {sl_is_mode : Array (Option Value)}
    {f_check_capacity : Addr} {oc_check_capacity kV_check_capacity dc_check_capacity pm_check_capacity cd_check_capacity ct_check_capacity : Value} {od_check_capacity an_check_capacity : Option Addr} {sl_check_capacity : Array (Option Value)}
    {f_check_mode : Addr} {oc_check_mode kV_check_mode dc_check_mode pm_check_mode cd_check_mode ct_check_mode : Value} {od_check_mode an_check_mode : Option Addr} {sl_check_mode : Array (Option Value)}
    {f_Profile_init : Addr} {oc_Profile_init kV_Profile_init dc_Profile_init pm_Profile_init cd_Profile_init ct_Profile_init : Value} {od_Profile_init an_Profile_init : Option Addr} {sl_Profile_init : Array (Option Value)}
    {f_Profile_puts : Addr} {oc_Profile_puts kV_Profile_puts dc_Profile_puts pm_Profile_puts cd_Profile_puts ct_Profile_puts : Value} {od_Profile_puts an_Profile_puts : Option Addr} {sl_Profile_puts : Array (Option Value)}
    {f_Profile_takes : Addr} {oc_Profile_takes kV_Profile_takes dc_Profile_takes pm_Profile_takes cd_Profile_takes ct_Profile_takes : Value} {od_Profile_takes an_Profile_takes : Option Addr} {sl_Profile_takes : Array (Option Value)}
    {f_Profile_low : Addr} {oc_Profile_low kV_Profile_low dc_Profile_low pm_Profile_low cd_Profile_low ct_Profile_low : Value} {od_Profile_low an_Profile_low : Option Addr} {sl_Profile_low : Array (Option Value)}
    {f_Profile_high : Addr} {oc_Profile_high kV_Profile_high dc_Profile_high pm_Profile_high cd_Profile_high ct_Profile_high : Value} {od_Profile_high an_Profile_high : Option Addr} {sl_Profile_high : Array (Option Value)}
    {f_Profile_fall : Addr} {oc_Profile_fall kV_Profile_fall dc_Profile_fall pm_Profile_fall cd_Profile_fall ct_Profile_fall : Value} {od_Profile_fall an_Profile_fall : Option Addr} {sl_Profile_fall : Array (Option Value)}
    {f_Profile_offset : Addr} {oc_Profile_offset kV_Profile_offset dc_Profile_offset pm_Profile_offset cd_Profile_offset ct_Profile_offset : Value} {od_Profile_offset an_Profile_offset : Option Addr} {sl_Profile_offset : Array (Option Value)}
    {f_Profile_of : Addr} {oc_Profile_of kV_Profile_of dc_Profile_of pm_Profile_of cd_Profile_of ct_Profile_of : Value} {od_Profile_of an_Profile_of : Option Addr} {sl_Profile_of : Array (Option Value)}
    {f_Profile_of_parts : Addr} {oc_Profile_of_parts kV_Profile_of_parts dc_Profile_of_parts pm_Profile_of_parts cd_Profile_of_parts ct_Profile_of_parts : Value} {od_Profile_of_parts an_Profile_of_parts : Option Addr} {sl_Profile_of_parts : Array (Option Value)}
    {f_Profile_of_sequence : Addr} {oc_Profile_of_sequence kV_Profile_of_sequence dc_Profile_of_sequence pm_Profile_of_sequence cd_Profile_of_sequence ct_Profile_of_sequence : Value} {od_Profile_of_sequence an_Profile_of_sequence : Option Addr} {sl_Profile_of_sequence : Array (Option Value)}
    {f_Profile_add : Addr} {oc_Profile_add kV_Profile_add dc_Profile_add pm_Profile_add cd_Profile_add ct_Profile_add : Value} {od_Profile_add an_Profile_add : Option Addr} {sl_Profile_add : Array (Option Value)}
    {f_Profile_mul : Addr} {oc_Profile_mul kV_Profile_mul dc_Profile_mul pm_Profile_mul cd_Profile_mul ct_Profile_mul : Value} {od_Profile_mul an_Profile_mul : Option Addr} {sl_Profile_mul : Array (Option Value)}
    {f_Profile_repeated_fall : Addr} {oc_Profile_repeated_fall kV_Profile_repeated_fall dc_Profile_repeated_fall pm_Profile_repeated_fall cd_Profile_repeated_fall ct_Profile_repeated_fall : Value} {od_Profile_repeated_fall an_Profile_repeated_fall : Option Addr} {sl_Profile_repeated_fall : Array (Option Value)}
    {f_Profile_eq : Addr} {oc_Profile_eq kV_Profile_eq dc_Profile_eq pm_Profile_eq cd_Profile_eq ct_Profile_eq : Value} {od_Profile_eq an_Profile_eq : Option Addr} {sl_Profile_eq : Array (Option Value)}
    {f_start_lengths : Addr} {oc_start_lengths kV_start_lengths dc_start_lengths pm_start_lengths cd_start_lengths ct_start_lengths : Value} {od_start_lengths an_start_lengths : Option Addr} {sl_start_lengths : Array (Option Value)}
    {f_start_bounds : Addr} {oc_start_bounds kV_start_bounds dc_start_bounds pm_start_bounds cd_start_bounds ct_start_bounds : Value} {od_start_bounds an_start_bounds : Option Addr} {sl_start_bounds : Array (Option Value)}
    {f__law_draws : Addr} {oc__law_draws kV__law_draws dc__law_draws pm__law_draws cd__law_draws ct__law_draws : Value} {od__law_draws an__law_draws : Option Addr} {sl__law_draws : Array (Option Value)}
    {f__law_draw : Addr} {oc__law_draw kV__law_draw dc__law_draw pm__law_draw cd__law_draw ct__law_draw : Value} {od__law_draw an__law_draw : Option Addr} {sl__law_draw : Array (Option Value)}
    {f__law_letter : Addr} {oc__law_letter kV__law_letter dc__law_letter pm__law_letter cd__law_letter ct__law_letter : Value} {od__law_letter an__law_letter : Option Addr} {sl__law_letter : Array (Option Value)}
    {f__law_sequence : Addr} {oc__law_sequence kV__law_sequence dc__law_sequence pm__law_sequence cd__law_sequence ct__law_sequence : Value} {od__law_sequence an__law_sequence : Option Addr} {sl__law_sequence : Array (Option Value)}
    {f__law_program : Addr} {oc__law_program kV__law_program dc__law_program pm__law_program cd__law_program ct__law_program : Value} {od__law_program an__law_program : Option Addr} {sl__law_program : Array (Option Value)}
    {f__law_rest : Addr} {oc__law_rest kV__law_rest dc__law_rest pm__law_rest cd__law_rest ct__law_rest : Value} {od__law_rest an__law_rest : Option Addr} {sl__law_rest : Array (Option Value)}
    {f__law_is_program : Addr} {oc__law_is_program kV__law_is_program dc__law_is_program pm__law_is_program cd__law_is_program ct__law_is_program : Value} {od__law_is_program an__law_is_program : Option Addr} {sl__law_is_program : Array (Option Value)}
    {f__law_error : Addr} {oc__law_error kV__law_error dc__law_error pm__law_error cd__law_error ct__law_error : Value} {od__law_error an__law_error : Option Addr} {sl__law_error : Array (Option Value)}
    {f__law_right : Addr} {oc__law_right kV__law_right dc__law_right pm__law_right cd__law_right ct__law_right : Value} {od__law_right an__law_right : Option Addr} {sl__law_right : Array (Option Value)}
    {f_law : Addr} {oc_law kV_law dc_law pm_law cd_law ct_law : Value} {od_law an_law : Option Addr} {sl_law : Array (Option Value)}
    {u_DIGITS : Tok}
    {u_MOST_DIGITS : Tok}
    {u_TAKE : Tok}
    {u_STEPS : Tok}
    {u_MOST_COUNT : Tok}
    {u_MOST_DEPTH : Tok}
    {u_MOST_STEPS : Tok}
    {p_MODES : Addr} {md_MODES : Option Addr} {mn_MODES : Nat} {ms_MODES : Array (Option Value)} {u1_MODES u2_MODES u3_MODES : Tok}
    {u_MOST_CAPACITY : Tok}
    {x_Profile : Addr}
    {cp_Profile_of : Addr} {cr_Profile_of : List Value}
    {cp_Profile_of_parts : Addr} {cr_Profile_of_parts : List Value}
    {cp_Profile_of_sequence : Addr} {cr_Profile_of_sequence : List Value}
    {pp_Profile_puts : Addr} {pq_Profile_puts : List Value}
    {pp_Profile_takes : Addr} {pq_Profile_takes : List Value}
    {pp_Profile_low : Addr} {pq_Profile_low : List Value}
    {pp_Profile_high : Addr} {pq_Profile_high : List Value}
    {pp_Profile_fall : Addr} {pq_Profile_fall : List Value}
    {pp_Profile_offset : Addr} {pq_Profile_offset : List Value}
    {fo_Profile_mul_int ro_Profile_mul_int : Option Value}
    {fo_Profile_mul_NoneType ro_Profile_mul_NoneType : Option Value}
    {fo_Profile_mul_str ro_Profile_mul_str : Option Value}
    {fo_Profile_mul_bool ro_Profile_mul_bool : Option Value}
    {x_InvalidInteger : Addr}
    {x_InvalidMode : Addr}
    {x_InvalidProgram : Addr}
    {x_InvalidCapacity : Addr}
    (gx_Profile : PySem.W.nsIn K mainGlobals "Profile" = some (some (.ref x_Profile)))
    (pg_Profile : PySem.W.plainGet K x_Profile Str.empty = true)
    (hd_Profile : PySem.W.hasDictIn K x_Profile = true)
    (po_Profile : PySem.W.plainOver K x_Profile = true)
    (sa_Profile : PySem.W.findIn K (.ref x_Profile) "__setattr__" = some (some (.builtin "object.__setattr__")))
    (kc_Profile : PySem.W.keepIn K (.ref x_Profile) = true)
    (mk_Profile : PySem.W.makesIn K x_Profile = true)
    (in_Profile : PySem.W.findIn K (.ref x_Profile) "__init__" = some (some (.ref f_Profile_init)))
    (if_Profile : PySem.W.isFn K (.ref f_Profile_init) = true)
    (ca_Profile : PySem.W.findIn K (.ref x_Profile) "__class__" = some (some (.builtin "object.__class__")))
    (cm_Profile : PySem.W.mroIn K x_Profile (.type "object") = some true)
    (cg_Profile : PySem.W.specialIn K (.builtin "object.__class__") "__get__" = some (some (.builtin "getset_descriptor.__get__")))
    (ct_Profile : PySem.W.takesIn K (.builtin "object.__class__") = some true)
    (cs_Profile : PySem.W.isClsIn K x_Profile = true)
    (cy_Profile : PySem.W.typeIn K (.ref x_Profile) = some (.type "type"))
    (su_Profile_list : PySem.W.subIn K (.type "list") (.ref x_Profile) = some false)
    (rd_Profile : PySem.W.readsIn K x_Profile (.type "type") = true)
    (rg_Profile : PySem.W.specialIn K (.ref x_Profile) "__getattribute__" = some (some (.builtin "type.__getattribute__")))
    (ctz_Profile_of : PySem.W.findCls K (.ref x_Profile) (.type "type") "of" = some (.get (.builtin "classmethod.__get__") (.ref cp_Profile_of) .none (.ref x_Profile)))
    (cq_Profile_of : PySem.W.recIn K cp_Profile_of "classmethod" = some (.ref f_Profile_of :: cr_Profile_of))
    (cf_Profile_of : PySem.W.fnIn K f_Profile_of = true)
    (ctz_Profile_of_parts : PySem.W.findCls K (.ref x_Profile) (.type "type") "_of_parts" = some (.get (.builtin "classmethod.__get__") (.ref cp_Profile_of_parts) .none (.ref x_Profile)))
    (cq_Profile_of_parts : PySem.W.recIn K cp_Profile_of_parts "classmethod" = some (.ref f_Profile_of_parts :: cr_Profile_of_parts))
    (cf_Profile_of_parts : PySem.W.fnIn K f_Profile_of_parts = true)
    (ctz_Profile_of_sequence : PySem.W.findCls K (.ref x_Profile) (.type "type") "_of_sequence" = some (.get (.builtin "classmethod.__get__") (.ref cp_Profile_of_sequence) .none (.ref x_Profile)))
    (cq_Profile_of_sequence : PySem.W.recIn K cp_Profile_of_sequence "classmethod" = some (.ref f_Profile_of_sequence :: cr_Profile_of_sequence))
    (cf_Profile_of_sequence : PySem.W.fnIn K f_Profile_of_sequence = true)
    (na_Profile_puts : PySem.W.findIn K (.ref x_Profile) "_puts" = some none)
    (na_Profile_takes : PySem.W.findIn K (.ref x_Profile) "_takes" = some none)
    (na_Profile_low : PySem.W.findIn K (.ref x_Profile) "_low" = some none)
    (na_Profile_high : PySem.W.findIn K (.ref x_Profile) "_high" = some none)
    (na_Profile_fall : PySem.W.findIn K (.ref x_Profile) "_fall" = some none)
    (pa_Profile_puts : PySem.W.findIn K (.ref x_Profile) "puts" = some (some (.ref pp_Profile_puts)))
    (pg_Profile_puts : PySem.W.specialIn K (.ref pp_Profile_puts) "__get__" = some (some (.builtin "property.__get__")))
    (pt_Profile_puts : PySem.W.takesIn K (.ref pp_Profile_puts) = some true)
    (pr_Profile_puts : PySem.W.recIn K pp_Profile_puts "property" = some (.ref f_Profile_puts :: pq_Profile_puts))
    (pa_Profile_takes : PySem.W.findIn K (.ref x_Profile) "takes" = some (some (.ref pp_Profile_takes)))
    (pg_Profile_takes : PySem.W.specialIn K (.ref pp_Profile_takes) "__get__" = some (some (.builtin "property.__get__")))
    (pt_Profile_takes : PySem.W.takesIn K (.ref pp_Profile_takes) = some true)
    (pr_Profile_takes : PySem.W.recIn K pp_Profile_takes "property" = some (.ref f_Profile_takes :: pq_Profile_takes))
    (pa_Profile_low : PySem.W.findIn K (.ref x_Profile) "low" = some (some (.ref pp_Profile_low)))
    (pg_Profile_low : PySem.W.specialIn K (.ref pp_Profile_low) "__get__" = some (some (.builtin "property.__get__")))
    (pt_Profile_low : PySem.W.takesIn K (.ref pp_Profile_low) = some true)
    (pr_Profile_low : PySem.W.recIn K pp_Profile_low "property" = some (.ref f_Profile_low :: pq_Profile_low))
    (pa_Profile_high : PySem.W.findIn K (.ref x_Profile) "high" = some (some (.ref pp_Profile_high)))
    (pg_Profile_high : PySem.W.specialIn K (.ref pp_Profile_high) "__get__" = some (some (.builtin "property.__get__")))
    (pt_Profile_high : PySem.W.takesIn K (.ref pp_Profile_high) = some true)
    (pr_Profile_high : PySem.W.recIn K pp_Profile_high "property" = some (.ref f_Profile_high :: pq_Profile_high))
    (pa_Profile_fall : PySem.W.findIn K (.ref x_Profile) "fall" = some (some (.ref pp_Profile_fall)))
    (pg_Profile_fall : PySem.W.specialIn K (.ref pp_Profile_fall) "__get__" = some (some (.builtin "property.__get__")))
    (pt_Profile_fall : PySem.W.takesIn K (.ref pp_Profile_fall) = some true)
    (pr_Profile_fall : PySem.W.recIn K pp_Profile_fall "property" = some (.ref f_Profile_fall :: pq_Profile_fall))
    (pa_Profile_offset : PySem.W.findIn K (.ref x_Profile) "offset" = some (some (.ref pp_Profile_offset)))
    (pg_Profile_offset : PySem.W.specialIn K (.ref pp_Profile_offset) "__get__" = some (some (.builtin "property.__get__")))
    (pt_Profile_offset : PySem.W.takesIn K (.ref pp_Profile_offset) = some true)
    (pr_Profile_offset : PySem.W.recIn K pp_Profile_offset "property" = some (.ref f_Profile_offset :: pq_Profile_offset))
    (ma_Profile_repeated_fall : PySem.W.findIn K (.ref x_Profile) "_repeated_fall" = some (some (.ref f_Profile_repeated_fall)))
    (mi_Profile_repeated_fall : PySem.W.isFn K (.ref f_Profile_repeated_fall) = true)
    (mk_Profile_repeated_fall : PySem.W.keepIn K (.ref f_Profile_repeated_fall) = true)
    (sf_Profile : PySem.W.selfFirst K x_Profile = true)
    (ba_Profile_add : PySem.W.findIn K (.ref x_Profile) "__add__" = some (some (.ref f_Profile_add)))
    (bi_Profile_add : PySem.W.isFn K (.ref f_Profile_add) = true)
    (ba_Profile_mul : PySem.W.findIn K (.ref x_Profile) "__mul__" = some (some (.ref f_Profile_mul)))
    (bi_Profile_mul : PySem.W.isFn K (.ref f_Profile_mul) = true)
    (br_Profile_mul : PySem.W.findIn K (.ref x_Profile) "__rmul__" = some none)
    (fo_Profile_mul_int_ : PySem.W.findIn K (.type "int") "__mul__" = some fo_Profile_mul_int)
    (ro_Profile_mul_int_ : PySem.W.findIn K (.type "int") "__rmul__" = some ro_Profile_mul_int)
    (rs_Profile_mul_int_ : PySem.W.subIn K (.type "int") (.ref x_Profile) = some false)
    (fo_Profile_mul_NoneType_ : PySem.W.findIn K (.type "NoneType") "__mul__" = some fo_Profile_mul_NoneType)
    (ro_Profile_mul_NoneType_ : PySem.W.findIn K (.type "NoneType") "__rmul__" = some ro_Profile_mul_NoneType)
    (rs_Profile_mul_NoneType_ : PySem.W.subIn K (.type "NoneType") (.ref x_Profile) = some false)
    (fo_Profile_mul_str_ : PySem.W.findIn K (.type "str") "__mul__" = some fo_Profile_mul_str)
    (ro_Profile_mul_str_ : PySem.W.findIn K (.type "str") "__rmul__" = some ro_Profile_mul_str)
    (rs_Profile_mul_str_ : PySem.W.subIn K (.type "str") (.ref x_Profile) = some false)
    (fo_Profile_mul_bool_ : PySem.W.findIn K (.type "bool") "__mul__" = some fo_Profile_mul_bool)
    (ro_Profile_mul_bool_ : PySem.W.findIn K (.type "bool") "__rmul__" = some ro_Profile_mul_bool)
    (rs_Profile_mul_bool_ : PySem.W.subIn K (.type "bool") (.ref x_Profile) = some false)
    (ea_Profile : PySem.W.findIn K (.ref x_Profile) "__eq__" = some (some (.ref f_Profile_eq)))
    (ei_Profile : PySem.W.isFn K (.ref f_Profile_eq) = true)
    (en_Profile : PySem.W.findIn K (.ref x_Profile) "__ne__" = some (some (.builtin "object.__ne__")))
    (a_is_int : PySem.W.nsIn K mainGlobals "is_int" = some (some (.ref f_is_int)))
    (l_is_int : K.lookup f_is_int = some ⟨oc_is_int, od_is_int, .func (PySem.W.fnOf "is_int" "is_int" (defArgs s_is_int) (defBody s_is_int) (defScope s_is_int) .none kV_is_int dc_is_int pm_is_int an_is_int cd_is_int ct_is_int), sl_is_int⟩)
    (c_is_int : PySem.W.codeIn K cd_is_int "is_int" = true)
    (k_is_int : PySem.W.keepIn K (.ref f_is_int) = true)
    (a_is_natural : PySem.W.nsIn K mainGlobals "is_natural" = some (some (.ref f_is_natural)))
    (l_is_natural : K.lookup f_is_natural = some ⟨oc_is_natural, od_is_natural, .func (PySem.W.fnOf "is_natural" "is_natural" (defArgs s_is_natural) (defBody s_is_natural) (defScope s_is_natural) .none kV_is_natural dc_is_natural pm_is_natural an_is_natural cd_is_natural ct_is_natural), sl_is_natural⟩)
    (c_is_natural : PySem.W.codeIn K cd_is_natural "is_natural" = true)
    (k_is_natural : PySem.W.keepIn K (.ref f_is_natural) = true)
    (a_is_int_between : PySem.W.nsIn K mainGlobals "is_int_between" = some (some (.ref f_is_int_between)))
    (l_is_int_between : K.lookup f_is_int_between = some ⟨oc_is_int_between, od_is_int_between, .func (PySem.W.fnOf "is_int_between" "is_int_between" (defArgs s_is_int_between) (defBody s_is_int_between) (defScope s_is_int_between) .none kV_is_int_between dc_is_int_between pm_is_int_between an_is_int_between cd_is_int_between ct_is_int_between), sl_is_int_between⟩)
    (c_is_int_between : PySem.W.codeIn K cd_is_int_between "is_int_between" = true)
    (k_is_int_between : PySem.W.keepIn K (.ref f_is_int_between) = true)
    (a_read_integer : PySem.W.nsIn K mainGlobals "read_integer" = some (some (.ref f_read_integer)))
    (l_read_integer : K.lookup f_read_integer = some ⟨oc_read_integer, od_read_integer, .func (PySem.W.fnOf "read_integer" "read_integer" (defArgs s_read_integer) (defBody s_read_integer) (defScope s_read_integer) .none kV_read_integer dc_read_integer pm_read_integer an_read_integer cd_read_integer ct_read_integer), sl_read_integer⟩)
    (c_read_integer : PySem.W.codeIn K cd_read_integer "read_integer" = true)
    (k_read_integer : PySem.W.keepIn K (.ref f_read_integer) = true)
    (a_is_program : PySem.W.nsIn K mainGlobals "is_program" = some (some (.ref f_is_program)))
    (l_is_program : K.lookup f_is_program = some ⟨oc_is_program, od_is_program, .func (PySem.W.fnOf "is_program" "is_program" (defArgs s_is_program) (defBody s_is_program) (defScope s_is_program) .none kV_is_program dc_is_program pm_is_program an_is_program cd_is_program ct_is_program), sl_is_program⟩)
    (c_is_program : PySem.W.codeIn K cd_is_program "is_program" = true)
    (k_is_program : PySem.W.keepIn K (.ref f_is_program) = true)
    (a_is_sequence : PySem.W.nsIn K mainGlobals "is_sequence" = some (some (.ref f_is_sequence)))
    (l_is_sequence : K.lookup f_is_sequence = some ⟨oc_is_sequence, od_is_sequence, .func (PySem.W.fnOf "is_sequence" "is_sequence" (defArgs s_is_sequence) (defBody s_is_sequence) (defScope s_is_sequence) .none kV_is_sequence dc_is_sequence pm_is_sequence an_is_sequence cd_is_sequence ct_is_sequence), sl_is_sequence⟩)
    (c_is_sequence : PySem.W.codeIn K cd_is_sequence "is_sequence" = true)
    (k_is_sequence : PySem.W.keepIn K (.ref f_is_sequence) = true)
    (a_is_count : PySem.W.nsIn K mainGlobals "is_count" = some (some (.ref f_is_count)))
    (l_is_count : K.lookup f_is_count = some ⟨oc_is_count, od_is_count, .func (PySem.W.fnOf "is_count" "is_count" (defArgs s_is_count) (defBody s_is_count) (defScope s_is_count) .none kV_is_count dc_is_count pm_is_count an_is_count cd_is_count ct_is_count), sl_is_count⟩)
    (c_is_count : PySem.W.codeIn K cd_is_count "is_count" = true)
    (k_is_count : PySem.W.keepIn K (.ref f_is_count) = true)
    (a_check_count : PySem.W.nsIn K mainGlobals "check_count" = some (some (.ref f_check_count)))
    (l_check_count : K.lookup f_check_count = some ⟨oc_check_count, od_check_count, .func (PySem.W.fnOf "check_count" "check_count" (defArgs s_check_count) (defBody s_check_count) (defScope s_check_count) .none kV_check_count dc_check_count pm_check_count an_check_count cd_check_count ct_check_count), sl_check_count⟩)
    (c_check_count : PySem.W.codeIn K cd_check_count "check_count" = true)
    (k_check_count : PySem.W.keepIn K (.ref f_check_count) = true)
    (a_count_steps : PySem.W.nsIn K mainGlobals "count_steps" = some (some (.ref f_count_steps)))
    (l_count_steps : K.lookup f_count_steps = some ⟨oc_count_steps, od_count_steps, .func (PySem.W.fnOf "count_steps" "count_steps" (defArgs s_count_steps) (defBody s_count_steps) (defScope s_count_steps) .none kV_count_steps dc_count_steps pm_count_steps an_count_steps cd_count_steps ct_count_steps), sl_count_steps⟩)
    (c_count_steps : PySem.W.codeIn K cd_count_steps "count_steps" = true)
    (k_count_steps : PySem.W.keepIn K (.ref f_count_steps) = true)
    (a_write_out : PySem.W.nsIn K mainGlobals "write_out" = some (some (.ref f_write_out)))
    (l_write_out : K.lookup f_write_out = some ⟨oc_write_out, od_write_out, .func (PySem.W.fnOf "write_out" "write_out" (defArgs s_write_out) (defBody s_write_out) (defScope s_write_out) .none kV_write_out dc_write_out pm_write_out an_write_out cd_write_out ct_write_out), sl_write_out⟩)
    (c_write_out : PySem.W.codeIn K cd_write_out "write_out" = true)
    (k_write_out : PySem.W.keepIn K (.ref f_write_out) = true)
    (a_last_puts : PySem.W.nsIn K mainGlobals "last_puts" = some (some (.ref f_last_puts)))
    (l_last_puts : K.lookup f_last_puts = some ⟨oc_last_puts, od_last_puts, .func (PySem.W.fnOf "last_puts" "last_puts" (defArgs s_last_puts) (defBody s_last_puts) (defScope s_last_puts) .none kV_last_puts dc_last_puts pm_last_puts an_last_puts cd_last_puts ct_last_puts), sl_last_puts⟩)
    (c_last_puts : PySem.W.codeIn K cd_last_puts "last_puts" = true)
    (k_last_puts : PySem.W.keepIn K (.ref f_last_puts) = true)
    (a_repeat : PySem.W.nsIn K mainGlobals "repeat" = some (some (.ref f_repeat)))
    (l_repeat : K.lookup f_repeat = some ⟨oc_repeat, od_repeat, .func (PySem.W.fnOf "repeat" "repeat" (defArgs s_repeat) (defBody s_repeat) (defScope s_repeat) .none kV_repeat dc_repeat pm_repeat an_repeat cd_repeat ct_repeat), sl_repeat⟩)
    (c_repeat : PySem.W.codeIn K cd_repeat "repeat" = true)
    (k_repeat : PySem.W.keepIn K (.ref f_repeat) = true)
    (a_parts_of : PySem.W.nsIn K mainGlobals "parts_of" = some (some (.ref f_parts_of)))
    (l_parts_of : K.lookup f_parts_of = some ⟨oc_parts_of, od_parts_of, .func (PySem.W.fnOf "parts_of" "parts_of" (defArgs s_parts_of) (defBody s_parts_of) (defScope s_parts_of) .none kV_parts_of dc_parts_of pm_parts_of an_parts_of cd_parts_of ct_parts_of), sl_parts_of⟩)
    (c_parts_of : PySem.W.codeIn K cd_parts_of "parts_of" = true)
    (k_parts_of : PySem.W.keepIn K (.ref f_parts_of) = true)
    (a_read_parts : PySem.W.nsIn K mainGlobals "read_parts" = some (some (.ref f_read_parts)))
    (l_read_parts : K.lookup f_read_parts = some ⟨oc_read_parts, od_read_parts, .func (PySem.W.fnOf "read_parts" "read_parts" (defArgs s_read_parts) (defBody s_read_parts) (defScope s_read_parts) .none kV_read_parts dc_read_parts pm_read_parts an_read_parts cd_read_parts ct_read_parts), sl_read_parts⟩)
    (c_read_parts : PySem.W.codeIn K cd_read_parts "read_parts" = true)
    (k_read_parts : PySem.W.keepIn K (.ref f_read_parts) = true)
    (a_end_of_run : PySem.W.nsIn K mainGlobals "end_of_run" = some (some (.ref f_end_of_run)))
    (l_end_of_run : K.lookup f_end_of_run = some ⟨oc_end_of_run, od_end_of_run, .func (PySem.W.fnOf "end_of_run" "end_of_run" (defArgs s_end_of_run) (defBody s_end_of_run) (defScope s_end_of_run) .none kV_end_of_run dc_end_of_run pm_end_of_run an_end_of_run cd_end_of_run ct_end_of_run), sl_end_of_run⟩)
    (c_end_of_run : PySem.W.codeIn K cd_end_of_run "end_of_run" = true)
    (k_end_of_run : PySem.W.keepIn K (.ref f_end_of_run) = true)
    (a_count_part_steps : PySem.W.nsIn K mainGlobals "count_part_steps" = some (some (.ref f_count_part_steps)))
    (l_count_part_steps : K.lookup f_count_part_steps = some ⟨oc_count_part_steps, od_count_part_steps, .func (PySem.W.fnOf "count_part_steps" "count_part_steps" (defArgs s_count_part_steps) (defBody s_count_part_steps) (defScope s_count_part_steps) .none kV_count_part_steps dc_count_part_steps pm_count_part_steps an_count_part_steps cd_count_part_steps ct_count_part_steps), sl_count_part_steps⟩)
    (c_count_part_steps : PySem.W.codeIn K cd_count_part_steps "count_part_steps" = true)
    (k_count_part_steps : PySem.W.keepIn K (.ref f_count_part_steps) = true)
    (a_last_letters : PySem.W.nsIn K mainGlobals "last_letters" = some (some (.ref f_last_letters)))
    (l_last_letters : K.lookup f_last_letters = some ⟨oc_last_letters, od_last_letters, .func (PySem.W.fnOf "last_letters" "last_letters" (defArgs s_last_letters) (defBody s_last_letters) (defScope s_last_letters) .none kV_last_letters dc_last_letters pm_last_letters an_last_letters cd_last_letters ct_last_letters), sl_last_letters⟩)
    (c_last_letters : PySem.W.codeIn K cd_last_letters "last_letters" = true)
    (k_last_letters : PySem.W.keepIn K (.ref f_last_letters) = true)
    (a_last_letters_of_part : PySem.W.nsIn K mainGlobals "last_letters_of_part" = some (some (.ref f_last_letters_of_part)))
    (l_last_letters_of_part : K.lookup f_last_letters_of_part = some ⟨oc_last_letters_of_part, od_last_letters_of_part, .func (PySem.W.fnOf "last_letters_of_part" "last_letters_of_part" (defArgs s_last_letters_of_part) (defBody s_last_letters_of_part) (defScope s_last_letters_of_part) .none kV_last_letters_of_part dc_last_letters_of_part pm_last_letters_of_part an_last_letters_of_part cd_last_letters_of_part ct_last_letters_of_part), sl_last_letters_of_part⟩)
    (c_last_letters_of_part : PySem.W.codeIn K cd_last_letters_of_part "last_letters_of_part" = true)
    (k_last_letters_of_part : PySem.W.keepIn K (.ref f_last_letters_of_part) = true)
    (a_ending : PySem.W.nsIn K mainGlobals "ending" = some (some (.ref f_ending)))
    (l_ending : K.lookup f_ending = some ⟨oc_ending, od_ending, .func (PySem.W.fnOf "ending" "ending" (defArgs s_ending) (defBody s_ending) (defScope s_ending) .none kV_ending dc_ending pm_ending an_ending cd_ending ct_ending), sl_ending⟩)
    (c_ending : PySem.W.codeIn K cd_ending "ending" = true)
    (k_ending : PySem.W.keepIn K (.ref f_ending) = true)
    (a_is_capacity : PySem.W.nsIn K mainGlobals "is_capacity" = some (some (.ref f_is_capacity)))
    (l_is_capacity : K.lookup f_is_capacity = some ⟨oc_is_capacity, od_is_capacity, .func (PySem.W.fnOf "is_capacity" "is_capacity" (defArgs s_is_capacity) (defBody s_is_capacity) (defScope s_is_capacity) .none kV_is_capacity dc_is_capacity pm_is_capacity an_is_capacity cd_is_capacity ct_is_capacity), sl_is_capacity⟩)
    (c_is_capacity : PySem.W.codeIn K cd_is_capacity "is_capacity" = true)
    (k_is_capacity : PySem.W.keepIn K (.ref f_is_capacity) = true)
    (a_is_mode : PySem.W.nsIn K mainGlobals "is_mode" = some (some (.ref f_is_mode)))
    (l_is_mode : K.lookup f_is_mode = some ⟨oc_is_mode, od_is_mode, .func (PySem.W.fnOf "is_mode" "is_mode" (defArgs s_is_mode) (defBody s_is_mode) (defScope s_is_mode) .none kV_is_mode dc_is_mode pm_is_mode an_is_mode cd_is_mode ct_is_mode), sl_is_mode⟩)
    (c_is_mode : PySem.W.codeIn K cd_is_mode "is_mode" = true)
    (k_is_mode : PySem.W.keepIn K (.ref f_is_mode) = true)
    (a_check_capacity : PySem.W.nsIn K mainGlobals "check_capacity" = some (some (.ref f_check_capacity)))
    (l_check_capacity : K.lookup f_check_capacity = some ⟨oc_check_capacity, od_check_capacity, .func (PySem.W.fnOf "check_capacity" "check_capacity" (defArgs s_check_capacity) (defBody s_check_capacity) (defScope s_check_capacity) .none kV_check_capacity dc_check_capacity pm_check_capacity an_check_capacity cd_check_capacity ct_check_capacity), sl_check_capacity⟩)
    (c_check_capacity : PySem.W.codeIn K cd_check_capacity "check_capacity" = true)
    (k_check_capacity : PySem.W.keepIn K (.ref f_check_capacity) = true)
    (a_check_mode : PySem.W.nsIn K mainGlobals "check_mode" = some (some (.ref f_check_mode)))
    (l_check_mode : K.lookup f_check_mode = some ⟨oc_check_mode, od_check_mode, .func (PySem.W.fnOf "check_mode" "check_mode" (defArgs s_check_mode) (defBody s_check_mode) (defScope s_check_mode) .none kV_check_mode dc_check_mode pm_check_mode an_check_mode cd_check_mode ct_check_mode), sl_check_mode⟩)
    (c_check_mode : PySem.W.codeIn K cd_check_mode "check_mode" = true)
    (k_check_mode : PySem.W.keepIn K (.ref f_check_mode) = true)
    (l_Profile_init : K.lookup f_Profile_init = some ⟨oc_Profile_init, od_Profile_init, .func (PySem.W.fnOf "__init__" "Profile.__init__" (defArgs s_Profile_init) (defBody s_Profile_init) (defScope s_Profile_init) .none kV_Profile_init dc_Profile_init pm_Profile_init an_Profile_init cd_Profile_init ct_Profile_init), sl_Profile_init⟩)
    (c_Profile_init : PySem.W.codeIn K cd_Profile_init "Profile.__init__" = true)
    (k_Profile_init : PySem.W.keepIn K (.ref f_Profile_init) = true)
    (l_Profile_puts : K.lookup f_Profile_puts = some ⟨oc_Profile_puts, od_Profile_puts, .func (PySem.W.fnOf "puts" "Profile.puts" (defArgs s_Profile_puts) (defBody s_Profile_puts) (defScope s_Profile_puts) .none kV_Profile_puts dc_Profile_puts pm_Profile_puts an_Profile_puts cd_Profile_puts ct_Profile_puts), sl_Profile_puts⟩)
    (c_Profile_puts : PySem.W.codeIn K cd_Profile_puts "Profile.puts" = true)
    (k_Profile_puts : PySem.W.keepIn K (.ref f_Profile_puts) = true)
    (l_Profile_takes : K.lookup f_Profile_takes = some ⟨oc_Profile_takes, od_Profile_takes, .func (PySem.W.fnOf "takes" "Profile.takes" (defArgs s_Profile_takes) (defBody s_Profile_takes) (defScope s_Profile_takes) .none kV_Profile_takes dc_Profile_takes pm_Profile_takes an_Profile_takes cd_Profile_takes ct_Profile_takes), sl_Profile_takes⟩)
    (c_Profile_takes : PySem.W.codeIn K cd_Profile_takes "Profile.takes" = true)
    (k_Profile_takes : PySem.W.keepIn K (.ref f_Profile_takes) = true)
    (l_Profile_low : K.lookup f_Profile_low = some ⟨oc_Profile_low, od_Profile_low, .func (PySem.W.fnOf "low" "Profile.low" (defArgs s_Profile_low) (defBody s_Profile_low) (defScope s_Profile_low) .none kV_Profile_low dc_Profile_low pm_Profile_low an_Profile_low cd_Profile_low ct_Profile_low), sl_Profile_low⟩)
    (c_Profile_low : PySem.W.codeIn K cd_Profile_low "Profile.low" = true)
    (k_Profile_low : PySem.W.keepIn K (.ref f_Profile_low) = true)
    (l_Profile_high : K.lookup f_Profile_high = some ⟨oc_Profile_high, od_Profile_high, .func (PySem.W.fnOf "high" "Profile.high" (defArgs s_Profile_high) (defBody s_Profile_high) (defScope s_Profile_high) .none kV_Profile_high dc_Profile_high pm_Profile_high an_Profile_high cd_Profile_high ct_Profile_high), sl_Profile_high⟩)
    (c_Profile_high : PySem.W.codeIn K cd_Profile_high "Profile.high" = true)
    (k_Profile_high : PySem.W.keepIn K (.ref f_Profile_high) = true)
    (l_Profile_fall : K.lookup f_Profile_fall = some ⟨oc_Profile_fall, od_Profile_fall, .func (PySem.W.fnOf "fall" "Profile.fall" (defArgs s_Profile_fall) (defBody s_Profile_fall) (defScope s_Profile_fall) .none kV_Profile_fall dc_Profile_fall pm_Profile_fall an_Profile_fall cd_Profile_fall ct_Profile_fall), sl_Profile_fall⟩)
    (c_Profile_fall : PySem.W.codeIn K cd_Profile_fall "Profile.fall" = true)
    (k_Profile_fall : PySem.W.keepIn K (.ref f_Profile_fall) = true)
    (l_Profile_offset : K.lookup f_Profile_offset = some ⟨oc_Profile_offset, od_Profile_offset, .func (PySem.W.fnOf "offset" "Profile.offset" (defArgs s_Profile_offset) (defBody s_Profile_offset) (defScope s_Profile_offset) .none kV_Profile_offset dc_Profile_offset pm_Profile_offset an_Profile_offset cd_Profile_offset ct_Profile_offset), sl_Profile_offset⟩)
    (c_Profile_offset : PySem.W.codeIn K cd_Profile_offset "Profile.offset" = true)
    (k_Profile_offset : PySem.W.keepIn K (.ref f_Profile_offset) = true)
    (l_Profile_of : K.lookup f_Profile_of = some ⟨oc_Profile_of, od_Profile_of, .func (PySem.W.fnOf "of" "Profile.of" (defArgs s_Profile_of) (defBody s_Profile_of) (defScope s_Profile_of) .none kV_Profile_of dc_Profile_of pm_Profile_of an_Profile_of cd_Profile_of ct_Profile_of), sl_Profile_of⟩)
    (c_Profile_of : PySem.W.codeIn K cd_Profile_of "Profile.of" = true)
    (k_Profile_of : PySem.W.keepIn K (.ref f_Profile_of) = true)
    (l_Profile_of_parts : K.lookup f_Profile_of_parts = some ⟨oc_Profile_of_parts, od_Profile_of_parts, .func (PySem.W.fnOf "_of_parts" "Profile._of_parts" (defArgs s_Profile_of_parts) (defBody s_Profile_of_parts) (defScope s_Profile_of_parts) .none kV_Profile_of_parts dc_Profile_of_parts pm_Profile_of_parts an_Profile_of_parts cd_Profile_of_parts ct_Profile_of_parts), sl_Profile_of_parts⟩)
    (c_Profile_of_parts : PySem.W.codeIn K cd_Profile_of_parts "Profile._of_parts" = true)
    (k_Profile_of_parts : PySem.W.keepIn K (.ref f_Profile_of_parts) = true)
    (l_Profile_of_sequence : K.lookup f_Profile_of_sequence = some ⟨oc_Profile_of_sequence, od_Profile_of_sequence, .func (PySem.W.fnOf "_of_sequence" "Profile._of_sequence" (defArgs s_Profile_of_sequence) (defBody s_Profile_of_sequence) (defScope s_Profile_of_sequence) .none kV_Profile_of_sequence dc_Profile_of_sequence pm_Profile_of_sequence an_Profile_of_sequence cd_Profile_of_sequence ct_Profile_of_sequence), sl_Profile_of_sequence⟩)
    (c_Profile_of_sequence : PySem.W.codeIn K cd_Profile_of_sequence "Profile._of_sequence" = true)
    (k_Profile_of_sequence : PySem.W.keepIn K (.ref f_Profile_of_sequence) = true)
    (l_Profile_add : K.lookup f_Profile_add = some ⟨oc_Profile_add, od_Profile_add, .func (PySem.W.fnOf "__add__" "Profile.__add__" (defArgs s_Profile_add) (defBody s_Profile_add) (defScope s_Profile_add) .none kV_Profile_add dc_Profile_add pm_Profile_add an_Profile_add cd_Profile_add ct_Profile_add), sl_Profile_add⟩)
    (c_Profile_add : PySem.W.codeIn K cd_Profile_add "Profile.__add__" = true)
    (k_Profile_add : PySem.W.keepIn K (.ref f_Profile_add) = true)
    (l_Profile_mul : K.lookup f_Profile_mul = some ⟨oc_Profile_mul, od_Profile_mul, .func (PySem.W.fnOf "__mul__" "Profile.__mul__" (defArgs s_Profile_mul) (defBody s_Profile_mul) (defScope s_Profile_mul) .none kV_Profile_mul dc_Profile_mul pm_Profile_mul an_Profile_mul cd_Profile_mul ct_Profile_mul), sl_Profile_mul⟩)
    (c_Profile_mul : PySem.W.codeIn K cd_Profile_mul "Profile.__mul__" = true)
    (k_Profile_mul : PySem.W.keepIn K (.ref f_Profile_mul) = true)
    (l_Profile_repeated_fall : K.lookup f_Profile_repeated_fall = some ⟨oc_Profile_repeated_fall, od_Profile_repeated_fall, .func (PySem.W.fnOf "_repeated_fall" "Profile._repeated_fall" (defArgs s_Profile_repeated_fall) (defBody s_Profile_repeated_fall) (defScope s_Profile_repeated_fall) .none kV_Profile_repeated_fall dc_Profile_repeated_fall pm_Profile_repeated_fall an_Profile_repeated_fall cd_Profile_repeated_fall ct_Profile_repeated_fall), sl_Profile_repeated_fall⟩)
    (c_Profile_repeated_fall : PySem.W.codeIn K cd_Profile_repeated_fall "Profile._repeated_fall" = true)
    (k_Profile_repeated_fall : PySem.W.keepIn K (.ref f_Profile_repeated_fall) = true)
    (l_Profile_eq : K.lookup f_Profile_eq = some ⟨oc_Profile_eq, od_Profile_eq, .func (PySem.W.fnOf "__eq__" "Profile.__eq__" (defArgs s_Profile_eq) (defBody s_Profile_eq) (defScope s_Profile_eq) .none kV_Profile_eq dc_Profile_eq pm_Profile_eq an_Profile_eq cd_Profile_eq ct_Profile_eq), sl_Profile_eq⟩)
    (c_Profile_eq : PySem.W.codeIn K cd_Profile_eq "Profile.__eq__" = true)
    (k_Profile_eq : PySem.W.keepIn K (.ref f_Profile_eq) = true)
    (a_start_lengths : PySem.W.nsIn K mainGlobals "start_lengths" = some (some (.ref f_start_lengths)))
    (l_start_lengths : K.lookup f_start_lengths = some ⟨oc_start_lengths, od_start_lengths, .func (PySem.W.fnOf "start_lengths" "start_lengths" (defArgs s_start_lengths) (defBody s_start_lengths) (defScope s_start_lengths) .none kV_start_lengths dc_start_lengths pm_start_lengths an_start_lengths cd_start_lengths ct_start_lengths), sl_start_lengths⟩)
    (c_start_lengths : PySem.W.codeIn K cd_start_lengths "start_lengths" = true)
    (k_start_lengths : PySem.W.keepIn K (.ref f_start_lengths) = true)
    (a_start_bounds : PySem.W.nsIn K mainGlobals "start_bounds" = some (some (.ref f_start_bounds)))
    (l_start_bounds : K.lookup f_start_bounds = some ⟨oc_start_bounds, od_start_bounds, .func (PySem.W.fnOf "start_bounds" "start_bounds" (defArgs s_start_bounds) (defBody s_start_bounds) (defScope s_start_bounds) .none kV_start_bounds dc_start_bounds pm_start_bounds an_start_bounds cd_start_bounds ct_start_bounds), sl_start_bounds⟩)
    (c_start_bounds : PySem.W.codeIn K cd_start_bounds "start_bounds" = true)
    (k_start_bounds : PySem.W.keepIn K (.ref f_start_bounds) = true)
    (a__law_draws : PySem.W.nsIn K mainGlobals "_law_draws" = some (some (.ref f__law_draws)))
    (l__law_draws : K.lookup f__law_draws = some ⟨oc__law_draws, od__law_draws, .func (PySem.W.fnOf "_law_draws" "_law_draws" (defArgs s__law_draws) (defBody s__law_draws) (defScope s__law_draws) .none kV__law_draws dc__law_draws pm__law_draws an__law_draws cd__law_draws ct__law_draws), sl__law_draws⟩)
    (c__law_draws : PySem.W.codeIn K cd__law_draws "_law_draws" = true)
    (k__law_draws : PySem.W.keepIn K (.ref f__law_draws) = true)
    (a__law_draw : PySem.W.nsIn K mainGlobals "_law_draw" = some (some (.ref f__law_draw)))
    (l__law_draw : K.lookup f__law_draw = some ⟨oc__law_draw, od__law_draw, .func (PySem.W.fnOf "_law_draw" "_law_draw" (defArgs s__law_draw) (defBody s__law_draw) (defScope s__law_draw) .none kV__law_draw dc__law_draw pm__law_draw an__law_draw cd__law_draw ct__law_draw), sl__law_draw⟩)
    (c__law_draw : PySem.W.codeIn K cd__law_draw "_law_draw" = true)
    (k__law_draw : PySem.W.keepIn K (.ref f__law_draw) = true)
    (a__law_letter : PySem.W.nsIn K mainGlobals "_law_letter" = some (some (.ref f__law_letter)))
    (l__law_letter : K.lookup f__law_letter = some ⟨oc__law_letter, od__law_letter, .func (PySem.W.fnOf "_law_letter" "_law_letter" (defArgs s__law_letter) (defBody s__law_letter) (defScope s__law_letter) .none kV__law_letter dc__law_letter pm__law_letter an__law_letter cd__law_letter ct__law_letter), sl__law_letter⟩)
    (c__law_letter : PySem.W.codeIn K cd__law_letter "_law_letter" = true)
    (k__law_letter : PySem.W.keepIn K (.ref f__law_letter) = true)
    (a__law_sequence : PySem.W.nsIn K mainGlobals "_law_sequence" = some (some (.ref f__law_sequence)))
    (l__law_sequence : K.lookup f__law_sequence = some ⟨oc__law_sequence, od__law_sequence, .func (PySem.W.fnOf "_law_sequence" "_law_sequence" (defArgs s__law_sequence) (defBody s__law_sequence) (defScope s__law_sequence) .none kV__law_sequence dc__law_sequence pm__law_sequence an__law_sequence cd__law_sequence ct__law_sequence), sl__law_sequence⟩)
    (c__law_sequence : PySem.W.codeIn K cd__law_sequence "_law_sequence" = true)
    (k__law_sequence : PySem.W.keepIn K (.ref f__law_sequence) = true)
    (a__law_program : PySem.W.nsIn K mainGlobals "_law_program" = some (some (.ref f__law_program)))
    (l__law_program : K.lookup f__law_program = some ⟨oc__law_program, od__law_program, .func (PySem.W.fnOf "_law_program" "_law_program" (defArgs s__law_program) (defBody s__law_program) (defScope s__law_program) .none kV__law_program dc__law_program pm__law_program an__law_program cd__law_program ct__law_program), sl__law_program⟩)
    (c__law_program : PySem.W.codeIn K cd__law_program "_law_program" = true)
    (k__law_program : PySem.W.keepIn K (.ref f__law_program) = true)
    (a__law_rest : PySem.W.nsIn K mainGlobals "_law_rest" = some (some (.ref f__law_rest)))
    (l__law_rest : K.lookup f__law_rest = some ⟨oc__law_rest, od__law_rest, .func (PySem.W.fnOf "_law_rest" "_law_rest" (defArgs s__law_rest) (defBody s__law_rest) (defScope s__law_rest) .none kV__law_rest dc__law_rest pm__law_rest an__law_rest cd__law_rest ct__law_rest), sl__law_rest⟩)
    (c__law_rest : PySem.W.codeIn K cd__law_rest "_law_rest" = true)
    (k__law_rest : PySem.W.keepIn K (.ref f__law_rest) = true)
    (a__law_is_program : PySem.W.nsIn K mainGlobals "_law_is_program" = some (some (.ref f__law_is_program)))
    (l__law_is_program : K.lookup f__law_is_program = some ⟨oc__law_is_program, od__law_is_program, .func (PySem.W.fnOf "_law_is_program" "_law_is_program" (defArgs s__law_is_program) (defBody s__law_is_program) (defScope s__law_is_program) .none kV__law_is_program dc__law_is_program pm__law_is_program an__law_is_program cd__law_is_program ct__law_is_program), sl__law_is_program⟩)
    (c__law_is_program : PySem.W.codeIn K cd__law_is_program "_law_is_program" = true)
    (k__law_is_program : PySem.W.keepIn K (.ref f__law_is_program) = true)
    (a__law_error : PySem.W.nsIn K mainGlobals "_law_error" = some (some (.ref f__law_error)))
    (l__law_error : K.lookup f__law_error = some ⟨oc__law_error, od__law_error, .func (PySem.W.fnOf "_law_error" "_law_error" (defArgs s__law_error) (defBody s__law_error) (defScope s__law_error) .none kV__law_error dc__law_error pm__law_error an__law_error cd__law_error ct__law_error), sl__law_error⟩)
    (c__law_error : PySem.W.codeIn K cd__law_error "_law_error" = true)
    (k__law_error : PySem.W.keepIn K (.ref f__law_error) = true)
    (a__law_right : PySem.W.nsIn K mainGlobals "_law_right" = some (some (.ref f__law_right)))
    (l__law_right : K.lookup f__law_right = some ⟨oc__law_right, od__law_right, .func (PySem.W.fnOf "_law_right" "_law_right" (defArgs s__law_right) (defBody s__law_right) (defScope s__law_right) .none kV__law_right dc__law_right pm__law_right an__law_right cd__law_right ct__law_right), sl__law_right⟩)
    (c__law_right : PySem.W.codeIn K cd__law_right "_law_right" = true)
    (k__law_right : PySem.W.keepIn K (.ref f__law_right) = true)
    (a_law : PySem.W.nsIn K mainGlobals "law" = some (some (.ref f_law)))
    (l_law : K.lookup f_law = some ⟨oc_law, od_law, .func (PySem.W.fnOf "law" "law" (defArgs s_law) (defBody s_law) (defScope s_law) .none kV_law dc_law pm_law an_law cd_law ct_law), sl_law⟩)
    (c_law : PySem.W.codeIn K cd_law "law" = true)
    (k_law : PySem.W.keepIn K (.ref f_law) = true)
    (z_NotImplemented : PySem.W.nsIn K mainGlobals "NotImplemented" = some none)
    (z_all : PySem.W.nsIn K mainGlobals "all" = some none)
    (z_bool : PySem.W.nsIn K mainGlobals "bool" = some none)
    (z_classmethod : PySem.W.nsIn K mainGlobals "classmethod" = some none)
    (z_int : PySem.W.nsIn K mainGlobals "int" = some none)
    (z_isinstance : PySem.W.nsIn K mainGlobals "isinstance" = some none)
    (z_len : PySem.W.nsIn K mainGlobals "len" = some none)
    (z_max : PySem.W.nsIn K mainGlobals "max" = some none)
    (z_min : PySem.W.nsIn K mainGlobals "min" = some none)
    (z_property : PySem.W.nsIn K mainGlobals "property" = some none)
    (z_range : PySem.W.nsIn K mainGlobals "range" = some none)
    (z_str : PySem.W.nsIn K mainGlobals "str" = some none)
    (n_DIGITS : PySem.W.nsIn K mainGlobals "DIGITS" = some (some (.str "0123456789" u_DIGITS)))
    (n_MOST_DIGITS : PySem.W.nsIn K mainGlobals "MOST_DIGITS" = some (some (.int 60 u_MOST_DIGITS)))
    (n_TAKE : PySem.W.nsIn K mainGlobals "TAKE" = some (some (.str "-" u_TAKE)))
    (w_TAKE : 0 < u_TAKE ∧ u_TAKE < 343)
    (n_STEPS : PySem.W.nsIn K mainGlobals "STEPS" = some (some (.str "abcdefghijklmnopqrstuvwxyz-" u_STEPS)))
    (n_MOST_COUNT : PySem.W.nsIn K mainGlobals "MOST_COUNT" = some (some (.int 1000000000000000000000000000000 u_MOST_COUNT)))
    (n_MOST_DEPTH : PySem.W.nsIn K mainGlobals "MOST_DEPTH" = some (some (.int 20 u_MOST_DEPTH)))
    (n_MOST_STEPS : PySem.W.nsIn K mainGlobals "MOST_STEPS" = some (some (.int 4000 u_MOST_STEPS)))
    (n_MODES : PySem.W.nsIn K mainGlobals "MODES" = some (some (.ref p_MODES)))
    (l_MODES : K.lookup p_MODES = some ⟨.type "tuple", md_MODES, .seq #[.str "oldest" u1_MODES, .str "newest" u2_MODES, .str "strict" u3_MODES] mn_MODES, ms_MODES⟩)
    (n_MOST_CAPACITY : PySem.W.nsIn K mainGlobals "MOST_CAPACITY" = some (some (.int 100 u_MOST_CAPACITY)))
    (gx_InvalidInteger : PySem.W.nsIn K mainGlobals "InvalidInteger" = some (some (.ref x_InvalidInteger)))
    (q_InvalidInteger : PySem.W.excIn K x_InvalidInteger [.type "ValueError", .type "Exception", .type "BaseException", .type "object"] "ValueError.__new__" = true)
    (k_InvalidInteger : PySem.W.keepIn K (.ref x_InvalidInteger) = true)
    (b_InvalidInteger : PySem.W.subIn K (.ref x_InvalidInteger) (.type "BaseException") = some true)
    (t_InvalidInteger : PySem.W.typeIn K (.ref x_InvalidInteger) = some (.type "type"))
    (i_InvalidInteger : PySem.W.isClsIn K x_InvalidInteger = true)
    (s_InvalidInteger : PySem.W.subIn K (.ref x_InvalidInteger) (.ref x_InvalidInteger) = some true)
    (gx_InvalidMode : PySem.W.nsIn K mainGlobals "InvalidMode" = some (some (.ref x_InvalidMode)))
    (q_InvalidMode : PySem.W.excIn K x_InvalidMode [.type "ValueError", .type "Exception", .type "BaseException", .type "object"] "ValueError.__new__" = true)
    (k_InvalidMode : PySem.W.keepIn K (.ref x_InvalidMode) = true)
    (b_InvalidMode : PySem.W.subIn K (.ref x_InvalidMode) (.type "BaseException") = some true)
    (t_InvalidMode : PySem.W.typeIn K (.ref x_InvalidMode) = some (.type "type"))
    (i_InvalidMode : PySem.W.isClsIn K x_InvalidMode = true)
    (s_InvalidMode : PySem.W.subIn K (.ref x_InvalidMode) (.ref x_InvalidMode) = some true)
    (gx_InvalidProgram : PySem.W.nsIn K mainGlobals "InvalidProgram" = some (some (.ref x_InvalidProgram)))
    (q_InvalidProgram : PySem.W.excIn K x_InvalidProgram [.type "ValueError", .type "Exception", .type "BaseException", .type "object"] "ValueError.__new__" = true)
    (k_InvalidProgram : PySem.W.keepIn K (.ref x_InvalidProgram) = true)
    (b_InvalidProgram : PySem.W.subIn K (.ref x_InvalidProgram) (.type "BaseException") = some true)
    (t_InvalidProgram : PySem.W.typeIn K (.ref x_InvalidProgram) = some (.type "type"))
    (i_InvalidProgram : PySem.W.isClsIn K x_InvalidProgram = true)
    (s_InvalidProgram : PySem.W.subIn K (.ref x_InvalidProgram) (.ref x_InvalidProgram) = some true)
    (gx_InvalidCapacity : PySem.W.nsIn K mainGlobals "InvalidCapacity" = some (some (.ref x_InvalidCapacity)))
    (q_InvalidCapacity : PySem.W.excIn K x_InvalidCapacity [.type "ValueError", .type "Exception", .type "BaseException", .type "object"] "ValueError.__new__" = true)
    (k_InvalidCapacity : PySem.W.keepIn K (.ref x_InvalidCapacity) = true)
    (b_InvalidCapacity : PySem.W.subIn K (.ref x_InvalidCapacity) (.type "BaseException") = some true)
    (t_InvalidCapacity : PySem.W.typeIn K (.ref x_InvalidCapacity) = some (.type "type"))
    (i_InvalidCapacity : PySem.W.isClsIn K x_InvalidCapacity = true)
    (s_InvalidCapacity : PySem.W.subIn K (.ref x_InvalidCapacity) (.ref x_InvalidCapacity) = some true)
    : ∃ fd : FuncData, (∀ (s : Shared) (v : Value), BindsTo s fd ⟨[v], []⟩ [("_law_script", v)]) ∧ ∀ base : Heap, K.In base → base.Ns mainGlobals mg → FnOkN 343 P w K mg base CX0 47 fa fd ["_law_script"] (spLaw K) := by
  have e := hfa.symm.trans (PySem.W.mg_of X G a_law)
  cases e
  have F_is_int := fun_mk (st := s_is_int) l_is_int c_is_int k_is_int
  have b_is_int := F_is_int.binds (ps := ["value"]) fun _ _ _ _ _ _ us hl => match us, hl with | [_], _ => rfl
  have F_is_natural := fun_mk (st := s_is_natural) l_is_natural c_is_natural k_is_natural
  have b_is_natural := F_is_natural.binds (ps := ["value"]) fun _ _ _ _ _ _ us hl => match us, hl with | [_], _ => rfl
  have F_is_int_between := fun_mk (st := s_is_int_between) l_is_int_between c_is_int_between k_is_int_between
  have b_is_int_between := F_is_int_between.binds (ps := ["value", "least", "most"]) fun _ _ _ _ _ _ us hl => match us, hl with | [_, _, _], _ => rfl
  have F_read_integer := fun_mk (st := s_read_integer) l_read_integer c_read_integer k_read_integer
  have b_read_integer := F_read_integer.binds (ps := ["text"]) fun _ _ _ _ _ _ us hl => match us, hl with | [_], _ => rfl
  have F_is_program := fun_mk (st := s_is_program) l_is_program c_is_program k_is_program
  have b_is_program := F_is_program.binds (ps := ["value"]) fun _ _ _ _ _ _ us hl => match us, hl with | [_], _ => rfl
  have F_is_sequence := fun_mk (st := s_is_sequence) l_is_sequence c_is_sequence k_is_sequence
  have b_is_sequence := F_is_sequence.binds (ps := ["value"]) fun _ _ _ _ _ _ us hl => match us, hl with | [_], _ => rfl
  have F_is_count := fun_mk (st := s_is_count) l_is_count c_is_count k_is_count
  have b_is_count := F_is_count.binds (ps := ["value"]) fun _ _ _ _ _ _ us hl => match us, hl with | [_], _ => rfl
  have F_check_count := fun_mk (st := s_check_count) l_check_count c_check_count k_check_count
  have b_check_count := F_check_count.binds (ps := ["value"]) fun _ _ _ _ _ _ us hl => match us, hl with | [_], _ => rfl
  have F_count_steps := fun_mk (st := s_count_steps) l_count_steps c_count_steps k_count_steps
  have b_count_steps := F_count_steps.binds (ps := ["program"]) fun _ _ _ _ _ _ us hl => match us, hl with | [_], _ => rfl
  have F_write_out := fun_mk (st := s_write_out) l_write_out c_write_out k_write_out
  have b_write_out := F_write_out.binds (ps := ["program"]) fun _ _ _ _ _ _ us hl => match us, hl with | [_], _ => rfl
  have F_last_puts := fun_mk (st := s_last_puts) l_last_puts c_last_puts k_last_puts
  have b_last_puts := F_last_puts.binds (ps := ["program", "count"]) fun _ _ _ _ _ _ us hl => match us, hl with | [_, _], _ => rfl
  have F_repeat := fun_mk (st := s_repeat) l_repeat c_repeat k_repeat
  have b_repeat := F_repeat.binds (ps := ["program", "count"]) fun _ _ _ _ _ _ us hl => match us, hl with | [_, _], _ => rfl
  have F_parts_of := fun_mk (st := s_parts_of) l_parts_of c_parts_of k_parts_of
  have b_parts_of := F_parts_of.binds (ps := ["program"]) fun _ _ _ _ _ _ us hl => match us, hl with | [_], _ => rfl
  have F_read_parts := fun_mk (st := s_read_parts) l_read_parts c_read_parts k_read_parts
  have b_read_parts := F_read_parts.binds (ps := ["text"]) fun _ _ _ _ _ _ us hl => match us, hl with | [_], _ => rfl
  have F_end_of_run := fun_mk (st := s_end_of_run) l_end_of_run c_end_of_run k_end_of_run
  have b_end_of_run := F_end_of_run.binds (ps := ["text", "start", "signs"]) fun _ _ _ _ _ _ us hl => match us, hl with | [_, _, _], _ => rfl
  have F_count_part_steps := fun_mk (st := s_count_part_steps) l_count_part_steps c_count_part_steps k_count_part_steps
  have b_count_part_steps := F_count_part_steps.binds (ps := ["parts"]) fun _ _ _ _ _ _ us hl => match us, hl with | [_], _ => rfl
  have F_last_letters := fun_mk (st := s_last_letters) l_last_letters c_last_letters k_last_letters
  have b_last_letters := F_last_letters.binds (ps := ["parts", "most"]) fun _ _ _ _ _ _ us hl => match us, hl with | [_, _], _ => rfl
  have F_last_letters_of_part := fun_mk (st := s_last_letters_of_part) l_last_letters_of_part c_last_letters_of_part k_last_letters_of_part
  have b_last_letters_of_part := F_last_letters_of_part.binds (ps := ["part", "most"]) fun _ _ _ _ _ _ us hl => match us, hl with | [_, _], _ => rfl
  have F_ending := fun_mk (st := s_ending) l_ending c_ending k_ending
  have b_ending := F_ending.binds (ps := ["text", "most"]) fun _ _ _ _ _ _ us hl => match us, hl with | [_, _], _ => rfl
  have F_is_capacity := fun_mk (st := s_is_capacity) l_is_capacity c_is_capacity k_is_capacity
  have b_is_capacity := F_is_capacity.binds (ps := ["value"]) fun _ _ _ _ _ _ us hl => match us, hl with | [_], _ => rfl
  have F_is_mode := fun_mk (st := s_is_mode) l_is_mode c_is_mode k_is_mode
  have b_is_mode := F_is_mode.binds (ps := ["value"]) fun _ _ _ _ _ _ us hl => match us, hl with | [_], _ => rfl
  have F_check_capacity := fun_mk (st := s_check_capacity) l_check_capacity c_check_capacity k_check_capacity
  have b_check_capacity := F_check_capacity.binds (ps := ["value"]) fun _ _ _ _ _ _ us hl => match us, hl with | [_], _ => rfl
  have F_check_mode := fun_mk (st := s_check_mode) l_check_mode c_check_mode k_check_mode
  have b_check_mode := F_check_mode.binds (ps := ["value"]) fun _ _ _ _ _ _ us hl => match us, hl with | [_], _ => rfl
  have F_Profile_init := fun_mk (st := s_Profile_init) l_Profile_init c_Profile_init k_Profile_init
  have b_Profile_init := F_Profile_init.binds (ps := ["self", "puts", "takes", "low", "high", "fall"]) fun _ _ _ _ _ _ us hl => match us, hl with | [_, _, _, _, _, _], _ => rfl
  have F_Profile_puts := fun_mk (st := s_Profile_puts) l_Profile_puts c_Profile_puts k_Profile_puts
  have b_Profile_puts := F_Profile_puts.binds (ps := ["self"]) fun _ _ _ _ _ _ us hl => match us, hl with | [_], _ => rfl
  have F_Profile_takes := fun_mk (st := s_Profile_takes) l_Profile_takes c_Profile_takes k_Profile_takes
  have b_Profile_takes := F_Profile_takes.binds (ps := ["self"]) fun _ _ _ _ _ _ us hl => match us, hl with | [_], _ => rfl
  have F_Profile_low := fun_mk (st := s_Profile_low) l_Profile_low c_Profile_low k_Profile_low
  have b_Profile_low := F_Profile_low.binds (ps := ["self"]) fun _ _ _ _ _ _ us hl => match us, hl with | [_], _ => rfl
  have F_Profile_high := fun_mk (st := s_Profile_high) l_Profile_high c_Profile_high k_Profile_high
  have b_Profile_high := F_Profile_high.binds (ps := ["self"]) fun _ _ _ _ _ _ us hl => match us, hl with | [_], _ => rfl
  have F_Profile_fall := fun_mk (st := s_Profile_fall) l_Profile_fall c_Profile_fall k_Profile_fall
  have b_Profile_fall := F_Profile_fall.binds (ps := ["self"]) fun _ _ _ _ _ _ us hl => match us, hl with | [_], _ => rfl
  have F_Profile_offset := fun_mk (st := s_Profile_offset) l_Profile_offset c_Profile_offset k_Profile_offset
  have b_Profile_offset := F_Profile_offset.binds (ps := ["self"]) fun _ _ _ _ _ _ us hl => match us, hl with | [_], _ => rfl
  have F_Profile_of := fun_mk (st := s_Profile_of) l_Profile_of c_Profile_of k_Profile_of
  have b_Profile_of := F_Profile_of.binds (ps := ["cls", "program"]) fun _ _ _ _ _ _ us hl => match us, hl with | [_, _], _ => rfl
  have F_Profile_of_parts := fun_mk (st := s_Profile_of_parts) l_Profile_of_parts c_Profile_of_parts k_Profile_of_parts
  have b_Profile_of_parts := F_Profile_of_parts.binds (ps := ["cls", "parts"]) fun _ _ _ _ _ _ us hl => match us, hl with | [_, _], _ => rfl
  have F_Profile_of_sequence := fun_mk (st := s_Profile_of_sequence) l_Profile_of_sequence c_Profile_of_sequence k_Profile_of_sequence
  have b_Profile_of_sequence := F_Profile_of_sequence.binds (ps := ["cls", "sequence"]) fun _ _ _ _ _ _ us hl => match us, hl with | [_, _], _ => rfl
  have F_Profile_add := fun_mk (st := s_Profile_add) l_Profile_add c_Profile_add k_Profile_add
  have b_Profile_add := F_Profile_add.binds (ps := ["self", "other"]) fun _ _ _ _ _ _ us hl => match us, hl with | [_, _], _ => rfl
  have F_Profile_mul := fun_mk (st := s_Profile_mul) l_Profile_mul c_Profile_mul k_Profile_mul
  have b_Profile_mul := F_Profile_mul.binds (ps := ["self", "other"]) fun _ _ _ _ _ _ us hl => match us, hl with | [_, _], _ => rfl
  have F_Profile_repeated_fall := fun_mk (st := s_Profile_repeated_fall) l_Profile_repeated_fall c_Profile_repeated_fall k_Profile_repeated_fall
  have b_Profile_repeated_fall := F_Profile_repeated_fall.binds (ps := ["self", "last_start"]) fun _ _ _ _ _ _ us hl => match us, hl with | [_, _], _ => rfl
  have F_Profile_eq := fun_mk (st := s_Profile_eq) l_Profile_eq c_Profile_eq k_Profile_eq
  have b_Profile_eq := F_Profile_eq.binds (ps := ["self", "other"]) fun _ _ _ _ _ _ us hl => match us, hl with | [_, _], _ => rfl
  have F_start_lengths := fun_mk (st := s_start_lengths) l_start_lengths c_start_lengths k_start_lengths
  have b_start_lengths := F_start_lengths.binds (ps := ["program", "capacity", "mode"]) fun _ _ _ _ _ _ us hl => match us, hl with | [_, _, _], _ => rfl
  have F_start_bounds := fun_mk (st := s_start_bounds) l_start_bounds c_start_bounds k_start_bounds
  have b_start_bounds := F_start_bounds.binds (ps := ["profile", "capacity", "mode"]) fun _ _ _ _ _ _ us hl => match us, hl with | [_, _, _], _ => rfl
  have F__law_draws := fun_mk (st := s__law_draws) l__law_draws c__law_draws k__law_draws
  have b__law_draws := F__law_draws.binds (ps := ["_law_script", "_law_k"]) fun _ _ _ _ _ _ us hl => match us, hl with | [_, _], _ => rfl
  have F__law_draw := fun_mk (st := s__law_draw) l__law_draw c__law_draw k__law_draw
  have b__law_draw := F__law_draw.binds (ps := ["_law_draws_here", "_law_upto"]) fun _ _ _ _ _ _ us hl => match us, hl with | [_, _], _ => rfl
  have F__law_letter := fun_mk (st := s__law_letter) l__law_letter c__law_letter k__law_letter
  have b__law_letter := F__law_letter.binds (ps := ["_law_draws_here"]) fun _ _ _ _ _ _ us hl => match us, hl with | [_], _ => rfl
  have F__law_sequence := fun_mk (st := s__law_sequence) l__law_sequence c__law_sequence k__law_sequence
  have b__law_sequence := F__law_sequence.binds (ps := ["_law_draws_here", "_law_most"]) fun _ _ _ _ _ _ us hl => match us, hl with | [_, _], _ => rfl
  have F__law_program := fun_mk (st := s__law_program) l__law_program c__law_program k__law_program
  have b__law_program := F__law_program.binds (ps := ["_law_draws_here", "_law_depth"]) fun _ _ _ _ _ _ us hl => match us, hl with | [_, _], _ => rfl
  have F__law_rest := fun_mk (st := s__law_rest) l__law_rest c__law_rest k__law_rest
  have b__law_rest := F__law_rest.binds (ps := ["_law_text", "_law_at", "_law_depth"]) fun _ _ _ _ _ _ us hl => match us, hl with | [_, _, _], _ => rfl
  have F__law_is_program := fun_mk (st := s__law_is_program) l__law_is_program c__law_is_program k__law_is_program
  have b__law_is_program := F__law_is_program.binds (ps := ["_law_text"]) fun _ _ _ _ _ _ us hl => match us, hl with | [_], _ => rfl
  have F__law_error := fun_mk (st := s__law_error) l__law_error c__law_error k__law_error
  have b__law_error := F__law_error.binds (ps := ["_law_function", "_law_value"]) fun _ _ _ _ _ _ us hl => match us, hl with | [_, _], _ => rfl
  have F__law_right := fun_mk (st := s__law_right) l__law_right c__law_right k__law_right
  have b__law_right := F__law_right.binds (ps := ["_law_text"]) fun _ _ _ _ _ _ us hl => match us, hl with | [_], _ => rfl
  have F_law := fun_mk (st := s_law) l_law c_law k_law
  have b_law := F_law.binds (ps := ["_law_script"]) fun _ _ _ _ _ _ us hl => match us, hl with | [_], _ => rfl
  let T : Top K mg := { a_is_int := f_is_int, d_is_int := _, F_is_int := F_is_int, b_is_int := b_is_int, m_is_int := PySem.W.mg_of X G a_is_int, a_is_natural := f_is_natural, d_is_natural := _, F_is_natural := F_is_natural, b_is_natural := b_is_natural, m_is_natural := PySem.W.mg_of X G a_is_natural, a_is_int_between := f_is_int_between, d_is_int_between := _, F_is_int_between := F_is_int_between, b_is_int_between := b_is_int_between, m_is_int_between := PySem.W.mg_of X G a_is_int_between, a_read_integer := f_read_integer, d_read_integer := _, F_read_integer := F_read_integer, b_read_integer := b_read_integer, m_read_integer := PySem.W.mg_of X G a_read_integer, a_is_program := f_is_program, d_is_program := _, F_is_program := F_is_program, b_is_program := b_is_program, m_is_program := PySem.W.mg_of X G a_is_program, a_is_sequence := f_is_sequence, d_is_sequence := _, F_is_sequence := F_is_sequence, b_is_sequence := b_is_sequence, m_is_sequence := PySem.W.mg_of X G a_is_sequence, a_is_count := f_is_count, d_is_count := _, F_is_count := F_is_count, b_is_count := b_is_count, m_is_count := PySem.W.mg_of X G a_is_count, a_check_count := f_check_count, d_check_count := _, F_check_count := F_check_count, b_check_count := b_check_count, m_check_count := PySem.W.mg_of X G a_check_count, a_count_steps := f_count_steps, d_count_steps := _, F_count_steps := F_count_steps, b_count_steps := b_count_steps, m_count_steps := PySem.W.mg_of X G a_count_steps, a_write_out := f_write_out, d_write_out := _, F_write_out := F_write_out, b_write_out := b_write_out, m_write_out := PySem.W.mg_of X G a_write_out, a_last_puts := f_last_puts, d_last_puts := _, F_last_puts := F_last_puts, b_last_puts := b_last_puts, m_last_puts := PySem.W.mg_of X G a_last_puts, a_repeat := f_repeat, d_repeat := _, F_repeat := F_repeat, b_repeat := b_repeat, m_repeat := PySem.W.mg_of X G a_repeat, a_parts_of := f_parts_of, d_parts_of := _, F_parts_of := F_parts_of, b_parts_of := b_parts_of, m_parts_of := PySem.W.mg_of X G a_parts_of, a_read_parts := f_read_parts, d_read_parts := _, F_read_parts := F_read_parts, b_read_parts := b_read_parts, m_read_parts := PySem.W.mg_of X G a_read_parts, a_end_of_run := f_end_of_run, d_end_of_run := _, F_end_of_run := F_end_of_run, b_end_of_run := b_end_of_run, m_end_of_run := PySem.W.mg_of X G a_end_of_run, a_count_part_steps := f_count_part_steps, d_count_part_steps := _, F_count_part_steps := F_count_part_steps, b_count_part_steps := b_count_part_steps, m_count_part_steps := PySem.W.mg_of X G a_count_part_steps, a_last_letters := f_last_letters, d_last_letters := _, F_last_letters := F_last_letters, b_last_letters := b_last_letters, m_last_letters := PySem.W.mg_of X G a_last_letters, a_last_letters_of_part := f_last_letters_of_part, d_last_letters_of_part := _, F_last_letters_of_part := F_last_letters_of_part, b_last_letters_of_part := b_last_letters_of_part, m_last_letters_of_part := PySem.W.mg_of X G a_last_letters_of_part, a_ending := f_ending, d_ending := _, F_ending := F_ending, b_ending := b_ending, m_ending := PySem.W.mg_of X G a_ending, a_is_capacity := f_is_capacity, d_is_capacity := _, F_is_capacity := F_is_capacity, b_is_capacity := b_is_capacity, m_is_capacity := PySem.W.mg_of X G a_is_capacity, a_is_mode := f_is_mode, d_is_mode := _, F_is_mode := F_is_mode, b_is_mode := b_is_mode, m_is_mode := PySem.W.mg_of X G a_is_mode, a_check_capacity := f_check_capacity, d_check_capacity := _, F_check_capacity := F_check_capacity, b_check_capacity := b_check_capacity, m_check_capacity := PySem.W.mg_of X G a_check_capacity, a_check_mode := f_check_mode, d_check_mode := _, F_check_mode := F_check_mode, b_check_mode := b_check_mode, m_check_mode := PySem.W.mg_of X G a_check_mode, a_Profile_init := f_Profile_init, d_Profile_init := _, F_Profile_init := F_Profile_init, b_Profile_init := b_Profile_init, a_Profile_puts := f_Profile_puts, d_Profile_puts := _, F_Profile_puts := F_Profile_puts, b_Profile_puts := b_Profile_puts, a_Profile_takes := f_Profile_takes, d_Profile_takes := _, F_Profile_takes := F_Profile_takes, b_Profile_takes := b_Profile_takes, a_Profile_low := f_Profile_low, d_Profile_low := _, F_Profile_low := F_Profile_low, b_Profile_low := b_Profile_low, a_Profile_high := f_Profile_high, d_Profile_high := _, F_Profile_high := F_Profile_high, b_Profile_high := b_Profile_high, a_Profile_fall := f_Profile_fall, d_Profile_fall := _, F_Profile_fall := F_Profile_fall, b_Profile_fall := b_Profile_fall, a_Profile_offset := f_Profile_offset, d_Profile_offset := _, F_Profile_offset := F_Profile_offset, b_Profile_offset := b_Profile_offset, a_Profile_of := f_Profile_of, d_Profile_of := _, F_Profile_of := F_Profile_of, b_Profile_of := b_Profile_of, a_Profile_of_parts := f_Profile_of_parts, d_Profile_of_parts := _, F_Profile_of_parts := F_Profile_of_parts, b_Profile_of_parts := b_Profile_of_parts, a_Profile_of_sequence := f_Profile_of_sequence, d_Profile_of_sequence := _, F_Profile_of_sequence := F_Profile_of_sequence, b_Profile_of_sequence := b_Profile_of_sequence, a_Profile_add := f_Profile_add, d_Profile_add := _, F_Profile_add := F_Profile_add, b_Profile_add := b_Profile_add, a_Profile_mul := f_Profile_mul, d_Profile_mul := _, F_Profile_mul := F_Profile_mul, b_Profile_mul := b_Profile_mul, a_Profile_repeated_fall := f_Profile_repeated_fall, d_Profile_repeated_fall := _, F_Profile_repeated_fall := F_Profile_repeated_fall, b_Profile_repeated_fall := b_Profile_repeated_fall, a_Profile_eq := f_Profile_eq, d_Profile_eq := _, F_Profile_eq := F_Profile_eq, b_Profile_eq := b_Profile_eq, a_start_lengths := f_start_lengths, d_start_lengths := _, F_start_lengths := F_start_lengths, b_start_lengths := b_start_lengths, m_start_lengths := PySem.W.mg_of X G a_start_lengths, a_start_bounds := f_start_bounds, d_start_bounds := _, F_start_bounds := F_start_bounds, b_start_bounds := b_start_bounds, m_start_bounds := PySem.W.mg_of X G a_start_bounds, a__law_draws := f__law_draws, d__law_draws := _, F__law_draws := F__law_draws, b__law_draws := b__law_draws, m__law_draws := PySem.W.mg_of X G a__law_draws, a__law_draw := f__law_draw, d__law_draw := _, F__law_draw := F__law_draw, b__law_draw := b__law_draw, m__law_draw := PySem.W.mg_of X G a__law_draw, a__law_letter := f__law_letter, d__law_letter := _, F__law_letter := F__law_letter, b__law_letter := b__law_letter, m__law_letter := PySem.W.mg_of X G a__law_letter, a__law_sequence := f__law_sequence, d__law_sequence := _, F__law_sequence := F__law_sequence, b__law_sequence := b__law_sequence, m__law_sequence := PySem.W.mg_of X G a__law_sequence, a__law_program := f__law_program, d__law_program := _, F__law_program := F__law_program, b__law_program := b__law_program, m__law_program := PySem.W.mg_of X G a__law_program, a__law_rest := f__law_rest, d__law_rest := _, F__law_rest := F__law_rest, b__law_rest := b__law_rest, m__law_rest := PySem.W.mg_of X G a__law_rest, a__law_is_program := f__law_is_program, d__law_is_program := _, F__law_is_program := F__law_is_program, b__law_is_program := b__law_is_program, m__law_is_program := PySem.W.mg_of X G a__law_is_program, a__law_error := f__law_error, d__law_error := _, F__law_error := F__law_error, b__law_error := b__law_error, m__law_error := PySem.W.mg_of X G a__law_error, a__law_right := f__law_right, d__law_right := _, F__law_right := F__law_right, b__law_right := b__law_right, m__law_right := PySem.W.mg_of X G a__law_right, a_law := fa, d_law := _, F_law := F_law, b_law := b_law, m_law := PySem.W.mg_of X G a_law, z_NotImplemented := PySem.W.mg_none_of X G z_NotImplemented, z_all := PySem.W.mg_none_of X G z_all, z_bool := PySem.W.mg_none_of X G z_bool, z_classmethod := PySem.W.mg_none_of X G z_classmethod, z_int := PySem.W.mg_none_of X G z_int, z_isinstance := PySem.W.mg_none_of X G z_isinstance, z_len := PySem.W.mg_none_of X G z_len, z_max := PySem.W.mg_none_of X G z_max, z_min := PySem.W.mg_none_of X G z_min, z_property := PySem.W.mg_none_of X G z_property, z_range := PySem.W.mg_none_of X G z_range, z_str := PySem.W.mg_none_of X G z_str, u_DIGITS := u_DIGITS, c_DIGITS := PySem.W.mg_of X G n_DIGITS, u_MOST_DIGITS := u_MOST_DIGITS, c_MOST_DIGITS := PySem.W.mg_of X G n_MOST_DIGITS, u_TAKE := u_TAKE, c_TAKE := PySem.W.mg_of X G n_TAKE, w_TAKE := w_TAKE, u_STEPS := u_STEPS, c_STEPS := PySem.W.mg_of X G n_STEPS, u_MOST_COUNT := u_MOST_COUNT, c_MOST_COUNT := PySem.W.mg_of X G n_MOST_COUNT, u_MOST_DEPTH := u_MOST_DEPTH, c_MOST_DEPTH := PySem.W.mg_of X G n_MOST_DEPTH, u_MOST_STEPS := u_MOST_STEPS, c_MOST_STEPS := PySem.W.mg_of X G n_MOST_STEPS, p_MODES := p_MODES, c_MODES := PySem.W.mg_of X G n_MODES, t_MODES := fun H => Or.inr ⟨_, _, _, l_MODES, rfl, rfl, (show 3 ≤ sizeLine by decide), .cons ⟨_, rfl⟩ (.cons ⟨_, rfl⟩ (.cons ⟨_, rfl⟩ .nil))⟩, u_MOST_CAPACITY := u_MOST_CAPACITY, c_MOST_CAPACITY := PySem.W.mg_of X G n_MOST_CAPACITY, x_Profile := x_Profile, g_Profile := PySem.W.mg_of X G gx_Profile, cl_Profile := ⟨pg_Profile, hd_Profile, po_Profile, sa_Profile⟩, mk_Profile := ⟨mk_Profile, in_Profile, if_Profile, kc_Profile⟩, ca_Profile := ca_Profile, cm_Profile := cm_Profile, cg_Profile := cg_Profile, ct_Profile := ct_Profile, cs_Profile := cs_Profile, cy_Profile := cy_Profile, su_Profile_list := su_Profile_list, rd_Profile := ⟨rd_Profile, rg_Profile⟩, cp_Profile_of := cp_Profile_of, cm_Profile_of := ⟨ctz_Profile_of, ⟨_, cq_Profile_of⟩, cf_Profile_of⟩, cp_Profile_of_parts := cp_Profile_of_parts, cm_Profile_of_parts := ⟨ctz_Profile_of_parts, ⟨_, cq_Profile_of_parts⟩, cf_Profile_of_parts⟩, cp_Profile_of_sequence := cp_Profile_of_sequence, cm_Profile_of_sequence := ⟨ctz_Profile_of_sequence, ⟨_, cq_Profile_of_sequence⟩, cf_Profile_of_sequence⟩, n_Profile_puts := na_Profile_puts, n_Profile_takes := na_Profile_takes, n_Profile_low := na_Profile_low, n_Profile_high := na_Profile_high, n_Profile_fall := na_Profile_fall, pp_Profile_puts := pp_Profile_puts, pr_Profile_puts := ⟨pa_Profile_puts, pg_Profile_puts, pt_Profile_puts, ⟨_, pr_Profile_puts⟩⟩, pp_Profile_takes := pp_Profile_takes, pr_Profile_takes := ⟨pa_Profile_takes, pg_Profile_takes, pt_Profile_takes, ⟨_, pr_Profile_takes⟩⟩, pp_Profile_low := pp_Profile_low, pr_Profile_low := ⟨pa_Profile_low, pg_Profile_low, pt_Profile_low, ⟨_, pr_Profile_low⟩⟩, pp_Profile_high := pp_Profile_high, pr_Profile_high := ⟨pa_Profile_high, pg_Profile_high, pt_Profile_high, ⟨_, pr_Profile_high⟩⟩, pp_Profile_fall := pp_Profile_fall, pr_Profile_fall := ⟨pa_Profile_fall, pg_Profile_fall, pt_Profile_fall, ⟨_, pr_Profile_fall⟩⟩, pp_Profile_offset := pp_Profile_offset, pr_Profile_offset := ⟨pa_Profile_offset, pg_Profile_offset, pt_Profile_offset, ⟨_, pr_Profile_offset⟩⟩, me_Profile_repeated_fall := ⟨ma_Profile_repeated_fall, mi_Profile_repeated_fall, mk_Profile_repeated_fall⟩, sf_Profile := sf_Profile, ba_Profile_add := ba_Profile_add, bi_Profile_add := bi_Profile_add, ba_Profile_mul := ba_Profile_mul, bi_Profile_mul := bi_Profile_mul, br_Profile_mul := br_Profile_mul, rt_Profile_mul := (fun T hT => by (repeat (rcases List.mem_cons.mp hT with rfl | hT; first | exact ⟨⟨_, fo_Profile_mul_int_⟩, ⟨_, ro_Profile_mul_int_⟩, rs_Profile_mul_int_⟩ | exact ⟨⟨_, fo_Profile_mul_NoneType_⟩, ⟨_, ro_Profile_mul_NoneType_⟩, rs_Profile_mul_NoneType_⟩ | exact ⟨⟨_, fo_Profile_mul_str_⟩, ⟨_, ro_Profile_mul_str_⟩, rs_Profile_mul_str_⟩ | exact ⟨⟨_, fo_Profile_mul_bool_⟩, ⟨_, ro_Profile_mul_bool_⟩, rs_Profile_mul_bool_⟩)); cases hT), eq_Profile := ⟨ea_Profile, ei_Profile, en_Profile, cm_Profile⟩, x_InvalidInteger := x_InvalidInteger, g_InvalidInteger := PySem.W.mg_of X G gx_InvalidInteger, q_InvalidInteger := q_InvalidInteger, k_InvalidInteger := k_InvalidInteger, b_InvalidInteger := b_InvalidInteger, t_InvalidInteger := t_InvalidInteger, e_InvalidInteger := exm_self b_InvalidInteger i_InvalidInteger t_InvalidInteger s_InvalidInteger, x_InvalidMode := x_InvalidMode, g_InvalidMode := PySem.W.mg_of X G gx_InvalidMode, q_InvalidMode := q_InvalidMode, k_InvalidMode := k_InvalidMode, b_InvalidMode := b_InvalidMode, t_InvalidMode := t_InvalidMode, e_InvalidMode := exm_self b_InvalidMode i_InvalidMode t_InvalidMode s_InvalidMode, x_InvalidProgram := x_InvalidProgram, g_InvalidProgram := PySem.W.mg_of X G gx_InvalidProgram, q_InvalidProgram := q_InvalidProgram, k_InvalidProgram := k_InvalidProgram, b_InvalidProgram := b_InvalidProgram, t_InvalidProgram := t_InvalidProgram, e_InvalidProgram := exm_self b_InvalidProgram i_InvalidProgram t_InvalidProgram s_InvalidProgram, x_InvalidCapacity := x_InvalidCapacity, g_InvalidCapacity := PySem.W.mg_of X G gx_InvalidCapacity, q_InvalidCapacity := q_InvalidCapacity, k_InvalidCapacity := k_InvalidCapacity, b_InvalidCapacity := b_InvalidCapacity, t_InvalidCapacity := t_InvalidCapacity, e_InvalidCapacity := exm_self b_InvalidCapacity i_InvalidCapacity t_InvalidCapacity s_InvalidCapacity }
  exact ⟨T.d_law, fun s v => .of_eq rfl, fun base _ _ => ok_law (w := w) (base := base) T⟩
theorem walkT {l : PySem.W.OpenLaw} {q : Program} {loose : List Str} {XP : (Str → Option Value) → Heap → Prop} {YP : World → Heap → Prop} {d : DefRec} {K : Params → PySem.W.Frag}
    (hY : ∀ (w : World) (h : Heap), YP w h → (K w.params).In h)
    (F : ∀ (w : World) (mg : Str → Option Value) (fa : Addr) (h : Heap), (K w.params).In h → h.Ns mainGlobals mg → mg d.name = some (.ref fa) →
      ∃ fd : FuncData, (∀ (s : Shared) (u : Value), BindsTo s fd ⟨[u], []⟩ [("_law_script", u)]) ∧ ∀ base : Heap, (K w.params).In base → base.Ns mainGlobals mg → FnOkN 343 l.prog w (K w.params) mg base CX0 47 fa fd ["_law_script"] (spLaw (K w.params))) :
    WalkN 343 63 l q loose XP YP d :=
  walkN_of (k := 47) (x := "_law_script") (CX := fun _ => CX0) (sp := fun w => spLaw (K w.params)) (by decide) ⟨rfl, by decide, by decide⟩ hY (fun w mg fa h a b c => by
    obtain ⟨fd, e1, e2⟩ := F w mg fa h a b c
    exact ⟨fd, e1, fun base x y => e2 base x y⟩) (fun _ _ a ns hl _ hS => ⟨a, ns, rfl, hS, hl, fun _ => rfl⟩) fun _ _ _ _ _ z => z
end My
open PySem PySem.W PyProof.Rows
set_option maxRecDepth 100000 in
set_option maxHeartbeats 0 in
theorem PySem.Challenge.cw_fullqueue_k03_programs_recognized_holds : PySem.Challenge.rw_fullqueue_k03_programs_recognized.Holds := by
  w_on; o_law
  refine My.holds_lawT (l := PySem.Challenge.rw_fullqueue_k03_programs_recognized) (n := 343) (m := 63) (q := My.hq) (loose := My.loose) (d := HandSHeadRun.topDef My.hp 61) (XP := XL My.hq []) (YP := My.hook.says) rfl ?hdf My.left My.hook.of My.hook.keeps (fun s e => xl_of s (Bool.and_eq_true_iff.mp e).1) XL.keeps (by kernel_rfl) (by kernel_rfl) (by kernel_rfl) (fun s _ => My.recFacts_nil _) rfl (by first | assumption | decide +kernel) (by decide +kernel) ⟨rfl, rfl, rfl, rfl, rfl, by decide +kernel⟩ ?hw ?hc
  case hdf => rfl
  case hw => w_witness2
  case hc =>
    refine My.walkT (l := PySem.Challenge.rw_fullqueue_k03_programs_recognized) (K := My.K) (fun w h Y => PySem.W.kIn_of Y) ?F
    case F =>
      intro w mg fa h KX G hmg
      refine' My.all_mk KX G hmg ?gx_Profile ?pg_Profile ?hd_Profile ?po_Profile ?sa_Profile ?kc_Profile ?mk_Profile ?in_Profile ?if_Profile ?ca_Profile ?cm_Profile ?cg_Profile ?ct_Profile ?cs_Profile ?cy_Profile ?su_Profile_list ?rd_Profile ?rg_Profile ?ctz_Profile_of ?cq_Profile_of ?cf_Profile_of ?ctz_Profile_of_parts ?cq_Profile_of_parts ?cf_Profile_of_parts ?ctz_Profile_of_sequence ?cq_Profile_of_sequence ?cf_Profile_of_sequence ?na_Profile_puts ?na_Profile_takes ?na_Profile_low ?na_Profile_high ?na_Profile_fall ?pa_Profile_puts ?pg_Profile_puts ?pt_Profile_puts ?pr_Profile_puts ?pa_Profile_takes ?pg_Profile_takes ?pt_Profile_takes ?pr_Profile_takes ?pa_Profile_low ?pg_Profile_low ?pt_Profile_low ?pr_Profile_low ?pa_Profile_high ?pg_Profile_high ?pt_Profile_high ?pr_Profile_high ?pa_Profile_fall ?pg_Profile_fall ?pt_Profile_fall ?pr_Profile_fall ?pa_Profile_offset ?pg_Profile_offset ?pt_Profile_offset ?pr_Profile_offset ?ma_Profile_repeated_fall ?mi_Profile_repeated_fall ?mk_Profile_repeated_fall ?sf_Profile ?ba_Profile_add ?bi_Profile_add ?ba_Profile_mul ?bi_Profile_mul ?br_Profile_mul ?fo_Profile_mul_int_ ?ro_Profile_mul_int_ ?rs_Profile_mul_int_ ?fo_Profile_mul_NoneType_ ?ro_Profile_mul_NoneType_ ?rs_Profile_mul_NoneType_ ?fo_Profile_mul_str_ ?ro_Profile_mul_str_ ?rs_Profile_mul_str_ ?fo_Profile_mul_bool_ ?ro_Profile_mul_bool_ ?rs_Profile_mul_bool_ ?ea_Profile ?ei_Profile ?en_Profile ?a_is_int ?l_is_int ?c_is_int ?k_is_int ?a_is_natural ?l_is_natural ?c_is_natural ?k_is_natural ?a_is_int_between ?l_is_int_between ?c_is_int_between ?k_is_int_between ?a_read_integer ?l_read_integer ?c_read_integer ?k_read_integer ?a_is_program ?l_is_program ?c_is_program ?k_is_program ?a_is_sequence ?l_is_sequence ?c_is_sequence ?k_is_sequence ?a_is_count ?l_is_count ?c_is_count ?k_is_count ?a_check_count ?l_check_count ?c_check_count ?k_check_count ?a_count_steps ?l_count_steps ?c_count_steps ?k_count_steps ?a_write_out ?l_write_out ?c_write_out ?k_write_out ?a_last_puts ?l_last_puts ?c_last_puts ?k_last_puts ?a_repeat ?l_repeat ?c_repeat ?k_repeat ?a_parts_of ?l_parts_of ?c_parts_of ?k_parts_of ?a_read_parts ?l_read_parts ?c_read_parts ?k_read_parts ?a_end_of_run ?l_end_of_run ?c_end_of_run ?k_end_of_run ?a_count_part_steps ?l_count_part_steps ?c_count_part_steps ?k_count_part_steps ?a_last_letters ?l_last_letters ?c_last_letters ?k_last_letters ?a_last_letters_of_part ?l_last_letters_of_part ?c_last_letters_of_part ?k_last_letters_of_part ?a_ending ?l_ending ?c_ending ?k_ending ?a_is_capacity ?l_is_capacity ?c_is_capacity ?k_is_capacity ?a_is_mode ?l_is_mode ?c_is_mode ?k_is_mode ?a_check_capacity ?l_check_capacity ?c_check_capacity ?k_check_capacity ?a_check_mode ?l_check_mode ?c_check_mode ?k_check_mode ?l_Profile_init ?c_Profile_init ?k_Profile_init ?l_Profile_puts ?c_Profile_puts ?k_Profile_puts ?l_Profile_takes ?c_Profile_takes ?k_Profile_takes ?l_Profile_low ?c_Profile_low ?k_Profile_low ?l_Profile_high ?c_Profile_high ?k_Profile_high ?l_Profile_fall ?c_Profile_fall ?k_Profile_fall ?l_Profile_offset ?c_Profile_offset ?k_Profile_offset ?l_Profile_of ?c_Profile_of ?k_Profile_of ?l_Profile_of_parts ?c_Profile_of_parts ?k_Profile_of_parts ?l_Profile_of_sequence ?c_Profile_of_sequence ?k_Profile_of_sequence ?l_Profile_add ?c_Profile_add ?k_Profile_add ?l_Profile_mul ?c_Profile_mul ?k_Profile_mul ?l_Profile_repeated_fall ?c_Profile_repeated_fall ?k_Profile_repeated_fall ?l_Profile_eq ?c_Profile_eq ?k_Profile_eq ?a_start_lengths ?l_start_lengths ?c_start_lengths ?k_start_lengths ?a_start_bounds ?l_start_bounds ?c_start_bounds ?k_start_bounds ?a__law_draws ?l__law_draws ?c__law_draws ?k__law_draws ?a__law_draw ?l__law_draw ?c__law_draw ?k__law_draw ?a__law_letter ?l__law_letter ?c__law_letter ?k__law_letter ?a__law_sequence ?l__law_sequence ?c__law_sequence ?k__law_sequence ?a__law_program ?l__law_program ?c__law_program ?k__law_program ?a__law_rest ?l__law_rest ?c__law_rest ?k__law_rest ?a__law_is_program ?l__law_is_program ?c__law_is_program ?k__law_is_program ?a__law_error ?l__law_error ?c__law_error ?k__law_error ?a__law_right ?l__law_right ?c__law_right ?k__law_right ?a_law ?l_law ?c_law ?k_law ?z_NotImplemented ?z_all ?z_bool ?z_classmethod ?z_int ?z_isinstance ?z_len ?z_max ?z_min ?z_property ?z_range ?z_str ?n_DIGITS ?n_MOST_DIGITS ?n_TAKE ?w_TAKE ?n_STEPS ?n_MOST_COUNT ?n_MOST_DEPTH ?n_MOST_STEPS ?n_MODES ?l_MODES ?n_MOST_CAPACITY ?gx_InvalidInteger ?q_InvalidInteger ?k_InvalidInteger ?b_InvalidInteger ?t_InvalidInteger ?i_InvalidInteger ?s_InvalidInteger ?gx_InvalidMode ?q_InvalidMode ?k_InvalidMode ?b_InvalidMode ?t_InvalidMode ?i_InvalidMode ?s_InvalidMode ?gx_InvalidProgram ?q_InvalidProgram ?k_InvalidProgram ?b_InvalidProgram ?t_InvalidProgram ?i_InvalidProgram ?s_InvalidProgram ?gx_InvalidCapacity ?q_InvalidCapacity ?k_InvalidCapacity ?b_InvalidCapacity ?t_InvalidCapacity ?i_InvalidCapacity ?s_InvalidCapacity
      (case gx_Profile => first | rfl | with_unfolding_all rfl | kernel_rfl)
      (case pg_Profile => first | rfl | with_unfolding_all rfl | kernel_rfl)
      (case hd_Profile => first | rfl | with_unfolding_all rfl | kernel_rfl)
      (case po_Profile => first | rfl | with_unfolding_all rfl | kernel_rfl)
      (case sa_Profile => first | rfl | with_unfolding_all rfl | kernel_rfl)
      (case kc_Profile => first | rfl | with_unfolding_all rfl | kernel_rfl)
      (case mk_Profile => first | rfl | with_unfolding_all rfl | kernel_rfl)
      (case in_Profile => first | rfl | with_unfolding_all rfl | kernel_rfl)
      (case if_Profile => first | rfl | with_unfolding_all rfl | kernel_rfl)
      (case ca_Profile => first | rfl | with_unfolding_all rfl | kernel_rfl)
      (case cm_Profile => first | rfl | with_unfolding_all rfl | kernel_rfl)
      (case cg_Profile => first | rfl | with_unfolding_all rfl | kernel_rfl)
      (case ct_Profile => first | rfl | with_unfolding_all rfl | kernel_rfl)
      (case cs_Profile => first | rfl | with_unfolding_all rfl | kernel_rfl)
      (case cy_Profile => first | rfl | with_unfolding_all rfl | kernel_rfl)
      (case su_Profile_list => first | rfl | with_unfolding_all rfl | kernel_rfl)
      (case rd_Profile => first | rfl | with_unfolding_all rfl | kernel_rfl)
      (case rg_Profile => first | rfl | with_unfolding_all rfl | kernel_rfl)
      (case ctz_Profile_of => first | rfl | with_unfolding_all rfl | kernel_rfl)
      (case cq_Profile_of => first | rfl | with_unfolding_all rfl | kernel_rfl)
      (case cf_Profile_of => first | rfl | with_unfolding_all rfl | kernel_rfl)
      (case ctz_Profile_of_parts => first | rfl | with_unfolding_all rfl | kernel_rfl)
      (case cq_Profile_of_parts => first | rfl | with_unfolding_all rfl | kernel_rfl)
      (case cf_Profile_of_parts => first | rfl | with_unfolding_all rfl | kernel_rfl)
      (case ctz_Profile_of_sequence => first | rfl | with_unfolding_all rfl | kernel_rfl)
      (case cq_Profile_of_sequence => first | rfl | with_unfolding_all rfl | kernel_rfl)
      (case cf_Profile_of_sequence => first | rfl | with_unfolding_all rfl | kernel_rfl)
      (case na_Profile_puts => first | rfl | with_unfolding_all rfl | kernel_rfl)
      (case na_Profile_takes => first | rfl | with_unfolding_all rfl | kernel_rfl)
      (case na_Profile_low => first | rfl | with_unfolding_all rfl | kernel_rfl)
      (case na_Profile_high => first | rfl | with_unfolding_all rfl | kernel_rfl)
      (case na_Profile_fall => first | rfl | with_unfolding_all rfl | kernel_rfl)
      (case pa_Profile_puts => first | rfl | with_unfolding_all rfl | kernel_rfl)
      (case pg_Profile_puts => first | rfl | with_unfolding_all rfl | kernel_rfl)
      (case pt_Profile_puts => first | rfl | with_unfolding_all rfl | kernel_rfl)
      (case pr_Profile_puts => first | rfl | with_unfolding_all rfl | kernel_rfl)
      (case pa_Profile_takes => first | rfl | with_unfolding_all rfl | kernel_rfl)
      (case pg_Profile_takes => first | rfl | with_unfolding_all rfl | kernel_rfl)
      (case pt_Profile_takes => first | rfl | with_unfolding_all rfl | kernel_rfl)
      (case pr_Profile_takes => first | rfl | with_unfolding_all rfl | kernel_rfl)
      (case pa_Profile_low => first | rfl | with_unfolding_all rfl | kernel_rfl)
      (case pg_Profile_low => first | rfl | with_unfolding_all rfl | kernel_rfl)
      (case pt_Profile_low => first | rfl | with_unfolding_all rfl | kernel_rfl)
      (case pr_Profile_low => first | rfl | with_unfolding_all rfl | kernel_rfl)
      (case pa_Profile_high => first | rfl | with_unfolding_all rfl | kernel_rfl)
      (case pg_Profile_high => first | rfl | with_unfolding_all rfl | kernel_rfl)
      (case pt_Profile_high => first | rfl | with_unfolding_all rfl | kernel_rfl)
      (case pr_Profile_high => first | rfl | with_unfolding_all rfl | kernel_rfl)
      (case pa_Profile_fall => first | rfl | with_unfolding_all rfl | kernel_rfl)
      (case pg_Profile_fall => first | rfl | with_unfolding_all rfl | kernel_rfl)
      (case pt_Profile_fall => first | rfl | with_unfolding_all rfl | kernel_rfl)
      (case pr_Profile_fall => first | rfl | with_unfolding_all rfl | kernel_rfl)
      (case pa_Profile_offset => first | rfl | with_unfolding_all rfl | kernel_rfl)
      (case pg_Profile_offset => first | rfl | with_unfolding_all rfl | kernel_rfl)
      (case pt_Profile_offset => first | rfl | with_unfolding_all rfl | kernel_rfl)
      (case pr_Profile_offset => first | rfl | with_unfolding_all rfl | kernel_rfl)
      (case ma_Profile_repeated_fall => first | rfl | with_unfolding_all rfl | kernel_rfl)
      (case mi_Profile_repeated_fall => first | rfl | with_unfolding_all rfl | kernel_rfl)
      (case mk_Profile_repeated_fall => first | rfl | with_unfolding_all rfl | kernel_rfl)
      (case sf_Profile => first | rfl | with_unfolding_all rfl | kernel_rfl)
      (case ba_Profile_add => first | rfl | with_unfolding_all rfl | kernel_rfl)
      (case bi_Profile_add => first | rfl | with_unfolding_all rfl | kernel_rfl)
      (case ba_Profile_mul => first | rfl | with_unfolding_all rfl | kernel_rfl)
      (case bi_Profile_mul => first | rfl | with_unfolding_all rfl | kernel_rfl)
      (case br_Profile_mul => first | rfl | with_unfolding_all rfl | kernel_rfl)
      (case fo_Profile_mul_int_ => first | rfl | with_unfolding_all rfl | kernel_rfl)
      (case ro_Profile_mul_int_ => first | rfl | with_unfolding_all rfl | kernel_rfl)
      (case rs_Profile_mul_int_ => first | rfl | with_unfolding_all rfl | kernel_rfl)
      (case fo_Profile_mul_NoneType_ => first | rfl | with_unfolding_all rfl | kernel_rfl)
      (case ro_Profile_mul_NoneType_ => first | rfl | with_unfolding_all rfl | kernel_rfl)
      (case rs_Profile_mul_NoneType_ => first | rfl | with_unfolding_all rfl | kernel_rfl)
      (case fo_Profile_mul_str_ => first | rfl | with_unfolding_all rfl | kernel_rfl)
      (case ro_Profile_mul_str_ => first | rfl | with_unfolding_all rfl | kernel_rfl)
      (case rs_Profile_mul_str_ => first | rfl | with_unfolding_all rfl | kernel_rfl)
      (case fo_Profile_mul_bool_ => first | rfl | with_unfolding_all rfl | kernel_rfl)
      (case ro_Profile_mul_bool_ => first | rfl | with_unfolding_all rfl | kernel_rfl)
      (case rs_Profile_mul_bool_ => first | rfl | with_unfolding_all rfl | kernel_rfl)
      (case ea_Profile => first | rfl | with_unfolding_all rfl | kernel_rfl)
      (case ei_Profile => first | rfl | with_unfolding_all rfl | kernel_rfl)
      (case en_Profile => first | rfl | with_unfolding_all rfl | kernel_rfl)
      (case a_is_int => first | rfl | with_unfolding_all rfl | kernel_rfl)
      (case l_is_int => first | rfl | with_unfolding_all rfl | kernel_rfl)
      (case c_is_int => first | rfl | with_unfolding_all rfl | kernel_rfl)
      (case k_is_int => first | rfl | with_unfolding_all rfl | kernel_rfl)
      (case a_is_natural => first | rfl | with_unfolding_all rfl | kernel_rfl)
      (case l_is_natural => first | rfl | with_unfolding_all rfl | kernel_rfl)
      (case c_is_natural => first | rfl | with_unfolding_all rfl | kernel_rfl)
      (case k_is_natural => first | rfl | with_unfolding_all rfl | kernel_rfl)
      (case a_is_int_between => first | rfl | with_unfolding_all rfl | kernel_rfl)
      (case l_is_int_between => first | rfl | with_unfolding_all rfl | kernel_rfl)
      (case c_is_int_between => first | rfl | with_unfolding_all rfl | kernel_rfl)
      (case k_is_int_between => first | rfl | with_unfolding_all rfl | kernel_rfl)
      (case a_read_integer => first | rfl | with_unfolding_all rfl | kernel_rfl)
      (case l_read_integer => first | rfl | with_unfolding_all rfl | kernel_rfl)
      (case c_read_integer => first | rfl | with_unfolding_all rfl | kernel_rfl)
      (case k_read_integer => first | rfl | with_unfolding_all rfl | kernel_rfl)
      (case a_is_program => first | rfl | with_unfolding_all rfl | kernel_rfl)
      (case l_is_program => first | rfl | with_unfolding_all rfl | kernel_rfl)
      (case c_is_program => first | rfl | with_unfolding_all rfl | kernel_rfl)
      (case k_is_program => first | rfl | with_unfolding_all rfl | kernel_rfl)
      (case a_is_sequence => first | rfl | with_unfolding_all rfl | kernel_rfl)
      (case l_is_sequence => first | rfl | with_unfolding_all rfl | kernel_rfl)
      (case c_is_sequence => first | rfl | with_unfolding_all rfl | kernel_rfl)
      (case k_is_sequence => first | rfl | with_unfolding_all rfl | kernel_rfl)
      (case a_is_count => first | rfl | with_unfolding_all rfl | kernel_rfl)
      (case l_is_count => first | rfl | with_unfolding_all rfl | kernel_rfl)
      (case c_is_count => first | rfl | with_unfolding_all rfl | kernel_rfl)
      (case k_is_count => first | rfl | with_unfolding_all rfl | kernel_rfl)
      (case a_check_count => first | rfl | with_unfolding_all rfl | kernel_rfl)
      (case l_check_count => first | rfl | with_unfolding_all rfl | kernel_rfl)
      (case c_check_count => first | rfl | with_unfolding_all rfl | kernel_rfl)
      (case k_check_count => first | rfl | with_unfolding_all rfl | kernel_rfl)
      (case a_count_steps => first | rfl | with_unfolding_all rfl | kernel_rfl)
      (case l_count_steps => first | rfl | with_unfolding_all rfl | kernel_rfl)
      (case c_count_steps => first | rfl | with_unfolding_all rfl | kernel_rfl)
      (case k_count_steps => first | rfl | with_unfolding_all rfl | kernel_rfl)
      (case a_write_out => first | rfl | with_unfolding_all rfl | kernel_rfl)
      (case l_write_out => first | rfl | with_unfolding_all rfl | kernel_rfl)
      (case c_write_out => first | rfl | with_unfolding_all rfl | kernel_rfl)
      (case k_write_out => first | rfl | with_unfolding_all rfl | kernel_rfl)
      (case a_last_puts => first | rfl | with_unfolding_all rfl | kernel_rfl)
      (case l_last_puts => first | rfl | with_unfolding_all rfl | kernel_rfl)
      (case c_last_puts => first | rfl | with_unfolding_all rfl | kernel_rfl)
      (case k_last_puts => first | rfl | with_unfolding_all rfl | kernel_rfl)
      (case a_repeat => first | rfl | with_unfolding_all rfl | kernel_rfl)
      (case l_repeat => first | rfl | with_unfolding_all rfl | kernel_rfl)
      (case c_repeat => first | rfl | with_unfolding_all rfl | kernel_rfl)
      (case k_repeat => first | rfl | with_unfolding_all rfl | kernel_rfl)
      (case a_parts_of => first | rfl | with_unfolding_all rfl | kernel_rfl)
      (case l_parts_of => first | rfl | with_unfolding_all rfl | kernel_rfl)
      (case c_parts_of => first | rfl | with_unfolding_all rfl | kernel_rfl)
      (case k_parts_of => first | rfl | with_unfolding_all rfl | kernel_rfl)
      (case a_read_parts => first | rfl | with_unfolding_all rfl | kernel_rfl)
      (case l_read_parts => first | rfl | with_unfolding_all rfl | kernel_rfl)
      (case c_read_parts => first | rfl | with_unfolding_all rfl | kernel_rfl)
      (case k_read_parts => first | rfl | with_unfolding_all rfl | kernel_rfl)
      (case a_end_of_run => first | rfl | with_unfolding_all rfl | kernel_rfl)
      (case l_end_of_run => first | rfl | with_unfolding_all rfl | kernel_rfl)
      (case c_end_of_run => first | rfl | with_unfolding_all rfl | kernel_rfl)
      (case k_end_of_run => first | rfl | with_unfolding_all rfl | kernel_rfl)
      (case a_count_part_steps => first | rfl | with_unfolding_all rfl | kernel_rfl)
      (case l_count_part_steps => first | rfl | with_unfolding_all rfl | kernel_rfl)
      (case c_count_part_steps => first | rfl | with_unfolding_all rfl | kernel_rfl)
      (case k_count_part_steps => first | rfl | with_unfolding_all rfl | kernel_rfl)
      (case a_last_letters => first | rfl | with_unfolding_all rfl | kernel_rfl)
      (case l_last_letters => first | rfl | with_unfolding_all rfl | kernel_rfl)
      (case c_last_letters => first | rfl | with_unfolding_all rfl | kernel_rfl)
      (case k_last_letters => first | rfl | with_unfolding_all rfl | kernel_rfl)
      (case a_last_letters_of_part => first | rfl | with_unfolding_all rfl | kernel_rfl)
      (case l_last_letters_of_part => first | rfl | with_unfolding_all rfl | kernel_rfl)
      (case c_last_letters_of_part => first | rfl | with_unfolding_all rfl | kernel_rfl)
      (case k_last_letters_of_part => first | rfl | with_unfolding_all rfl | kernel_rfl)
      (case a_ending => first | rfl | with_unfolding_all rfl | kernel_rfl)
      (case l_ending => first | rfl | with_unfolding_all rfl | kernel_rfl)
      (case c_ending => first | rfl | with_unfolding_all rfl | kernel_rfl)
      (case k_ending => first | rfl | with_unfolding_all rfl | kernel_rfl)
      (case a_is_capacity => first | rfl | with_unfolding_all rfl | kernel_rfl)
      (case l_is_capacity => first | rfl | with_unfolding_all rfl | kernel_rfl)
      (case c_is_capacity => first | rfl | with_unfolding_all rfl | kernel_rfl)
      (case k_is_capacity => first | rfl | with_unfolding_all rfl | kernel_rfl)
      (case a_is_mode => first | rfl | with_unfolding_all rfl | kernel_rfl)
      (case l_is_mode => first | rfl | with_unfolding_all rfl | kernel_rfl)
      (case c_is_mode => first | rfl | with_unfolding_all rfl | kernel_rfl)
      (case k_is_mode => first | rfl | with_unfolding_all rfl | kernel_rfl)
      (case a_check_capacity => first | rfl | with_unfolding_all rfl | kernel_rfl)
      (case l_check_capacity => first | rfl | with_unfolding_all rfl | kernel_rfl)
      (case c_check_capacity => first | rfl | with_unfolding_all rfl | kernel_rfl)
      (case k_check_capacity => first | rfl | with_unfolding_all rfl | kernel_rfl)
      (case a_check_mode => first | rfl | with_unfolding_all rfl | kernel_rfl)
      (case l_check_mode => first | rfl | with_unfolding_all rfl | kernel_rfl)
      (case c_check_mode => first | rfl | with_unfolding_all rfl | kernel_rfl)
      (case k_check_mode => first | rfl | with_unfolding_all rfl | kernel_rfl)
      (case l_Profile_init => first | rfl | with_unfolding_all rfl | kernel_rfl)
      (case c_Profile_init => first | rfl | with_unfolding_all rfl | kernel_rfl)
      (case k_Profile_init => first | rfl | with_unfolding_all rfl | kernel_rfl)
      (case l_Profile_puts => first | rfl | with_unfolding_all rfl | kernel_rfl)
      (case c_Profile_puts => first | rfl | with_unfolding_all rfl | kernel_rfl)
      (case k_Profile_puts => first | rfl | with_unfolding_all rfl | kernel_rfl)
      (case l_Profile_takes => first | rfl | with_unfolding_all rfl | kernel_rfl)
      (case c_Profile_takes => first | rfl | with_unfolding_all rfl | kernel_rfl)
      (case k_Profile_takes => first | rfl | with_unfolding_all rfl | kernel_rfl)
      (case l_Profile_low => first | rfl | with_unfolding_all rfl | kernel_rfl)
      (case c_Profile_low => first | rfl | with_unfolding_all rfl | kernel_rfl)
      (case k_Profile_low => first | rfl | with_unfolding_all rfl | kernel_rfl)
      (case l_Profile_high => first | rfl | with_unfolding_all rfl | kernel_rfl)
      (case c_Profile_high => first | rfl | with_unfolding_all rfl | kernel_rfl)
      (case k_Profile_high => first | rfl | with_unfolding_all rfl | kernel_rfl)
      (case l_Profile_fall => first | rfl | with_unfolding_all rfl | kernel_rfl)
      (case c_Profile_fall => first | rfl | with_unfolding_all rfl | kernel_rfl)
      (case k_Profile_fall => first | rfl | with_unfolding_all rfl | kernel_rfl)
      (case l_Profile_offset => first | rfl | with_unfolding_all rfl | kernel_rfl)
      (case c_Profile_offset => first | rfl | with_unfolding_all rfl | kernel_rfl)
      (case k_Profile_offset => first | rfl | with_unfolding_all rfl | kernel_rfl)
      (case l_Profile_of => first | rfl | with_unfolding_all rfl | kernel_rfl)
      (case c_Profile_of => first | rfl | with_unfolding_all rfl | kernel_rfl)
      (case k_Profile_of => first | rfl | with_unfolding_all rfl | kernel_rfl)
      (case l_Profile_of_parts => first | rfl | with_unfolding_all rfl | kernel_rfl)
      (case c_Profile_of_parts => first | rfl | with_unfolding_all rfl | kernel_rfl)
      (case k_Profile_of_parts => first | rfl | with_unfolding_all rfl | kernel_rfl)
      (case l_Profile_of_sequence => first | rfl | with_unfolding_all rfl | kernel_rfl)
      (case c_Profile_of_sequence => first | rfl | with_unfolding_all rfl | kernel_rfl)
      (case k_Profile_of_sequence => first | rfl | with_unfolding_all rfl | kernel_rfl)
      (case l_Profile_add => first | rfl | with_unfolding_all rfl | kernel_rfl)
      (case c_Profile_add => first | rfl | with_unfolding_all rfl | kernel_rfl)
      (case k_Profile_add => first | rfl | with_unfolding_all rfl | kernel_rfl)
      (case l_Profile_mul => first | rfl | with_unfolding_all rfl | kernel_rfl)
      (case c_Profile_mul => first | rfl | with_unfolding_all rfl | kernel_rfl)
      (case k_Profile_mul => first | rfl | with_unfolding_all rfl | kernel_rfl)
      (case l_Profile_repeated_fall => first | rfl | with_unfolding_all rfl | kernel_rfl)
      (case c_Profile_repeated_fall => first | rfl | with_unfolding_all rfl | kernel_rfl)
      (case k_Profile_repeated_fall => first | rfl | with_unfolding_all rfl | kernel_rfl)
      (case l_Profile_eq => first | rfl | with_unfolding_all rfl | kernel_rfl)
      (case c_Profile_eq => first | rfl | with_unfolding_all rfl | kernel_rfl)
      (case k_Profile_eq => first | rfl | with_unfolding_all rfl | kernel_rfl)
      (case a_start_lengths => first | rfl | with_unfolding_all rfl | kernel_rfl)
      (case l_start_lengths => first | rfl | with_unfolding_all rfl | kernel_rfl)
      (case c_start_lengths => first | rfl | with_unfolding_all rfl | kernel_rfl)
      (case k_start_lengths => first | rfl | with_unfolding_all rfl | kernel_rfl)
      (case a_start_bounds => first | rfl | with_unfolding_all rfl | kernel_rfl)
      (case l_start_bounds => first | rfl | with_unfolding_all rfl | kernel_rfl)
      (case c_start_bounds => first | rfl | with_unfolding_all rfl | kernel_rfl)
      (case k_start_bounds => first | rfl | with_unfolding_all rfl | kernel_rfl)
      (case a__law_draws => first | rfl | with_unfolding_all rfl | kernel_rfl)
      (case l__law_draws => first | rfl | with_unfolding_all rfl | kernel_rfl)
      (case c__law_draws => first | rfl | with_unfolding_all rfl | kernel_rfl)
      (case k__law_draws => first | rfl | with_unfolding_all rfl | kernel_rfl)
      (case a__law_draw => first | rfl | with_unfolding_all rfl | kernel_rfl)
      (case l__law_draw => first | rfl | with_unfolding_all rfl | kernel_rfl)
      (case c__law_draw => first | rfl | with_unfolding_all rfl | kernel_rfl)
      (case k__law_draw => first | rfl | with_unfolding_all rfl | kernel_rfl)
      (case a__law_letter => first | rfl | with_unfolding_all rfl | kernel_rfl)
      (case l__law_letter => first | rfl | with_unfolding_all rfl | kernel_rfl)
      (case c__law_letter => first | rfl | with_unfolding_all rfl | kernel_rfl)
      (case k__law_letter => first | rfl | with_unfolding_all rfl | kernel_rfl)
      (case a__law_sequence => first | rfl | with_unfolding_all rfl | kernel_rfl)
      (case l__law_sequence => first | rfl | with_unfolding_all rfl | kernel_rfl)
      (case c__law_sequence => first | rfl | with_unfolding_all rfl | kernel_rfl)
      (case k__law_sequence => first | rfl | with_unfolding_all rfl | kernel_rfl)
      (case a__law_program => first | rfl | with_unfolding_all rfl | kernel_rfl)
      (case l__law_program => first | rfl | with_unfolding_all rfl | kernel_rfl)
      (case c__law_program => first | rfl | with_unfolding_all rfl | kernel_rfl)
      (case k__law_program => first | rfl | with_unfolding_all rfl | kernel_rfl)
      (case a__law_rest => first | rfl | with_unfolding_all rfl | kernel_rfl)
      (case l__law_rest => first | rfl | with_unfolding_all rfl | kernel_rfl)
      (case c__law_rest => first | rfl | with_unfolding_all rfl | kernel_rfl)
      (case k__law_rest => first | rfl | with_unfolding_all rfl | kernel_rfl)
      (case a__law_is_program => first | rfl | with_unfolding_all rfl | kernel_rfl)
      (case l__law_is_program => first | rfl | with_unfolding_all rfl | kernel_rfl)
      (case c__law_is_program => first | rfl | with_unfolding_all rfl | kernel_rfl)
      (case k__law_is_program => first | rfl | with_unfolding_all rfl | kernel_rfl)
      (case a__law_error => first | rfl | with_unfolding_all rfl | kernel_rfl)
      (case l__law_error => first | rfl | with_unfolding_all rfl | kernel_rfl)
      (case c__law_error => first | rfl | with_unfolding_all rfl | kernel_rfl)
      (case k__law_error => first | rfl | with_unfolding_all rfl | kernel_rfl)
      (case a__law_right => first | rfl | with_unfolding_all rfl | kernel_rfl)
      (case l__law_right => first | rfl | with_unfolding_all rfl | kernel_rfl)
      (case c__law_right => first | rfl | with_unfolding_all rfl | kernel_rfl)
      (case k__law_right => first | rfl | with_unfolding_all rfl | kernel_rfl)
      (case a_law => first | rfl | with_unfolding_all rfl | kernel_rfl)
      (case l_law => first | rfl | with_unfolding_all rfl | kernel_rfl)
      (case c_law => first | rfl | with_unfolding_all rfl | kernel_rfl)
      (case k_law => first | rfl | with_unfolding_all rfl | kernel_rfl)
      (case z_NotImplemented => first | rfl | with_unfolding_all rfl | kernel_rfl)
      (case z_all => first | rfl | with_unfolding_all rfl | kernel_rfl)
      (case z_bool => first | rfl | with_unfolding_all rfl | kernel_rfl)
      (case z_classmethod => first | rfl | with_unfolding_all rfl | kernel_rfl)
      (case z_int => first | rfl | with_unfolding_all rfl | kernel_rfl)
      (case z_isinstance => first | rfl | with_unfolding_all rfl | kernel_rfl)
      (case z_len => first | rfl | with_unfolding_all rfl | kernel_rfl)
      (case z_max => first | rfl | with_unfolding_all rfl | kernel_rfl)
      (case z_min => first | rfl | with_unfolding_all rfl | kernel_rfl)
      (case z_property => first | rfl | with_unfolding_all rfl | kernel_rfl)
      (case z_range => first | rfl | with_unfolding_all rfl | kernel_rfl)
      (case z_str => first | rfl | with_unfolding_all rfl | kernel_rfl)
      (case n_DIGITS => first | rfl | with_unfolding_all rfl | kernel_rfl)
      (case n_MOST_DIGITS => first | rfl | with_unfolding_all rfl | kernel_rfl)
      (case n_TAKE => first | rfl | with_unfolding_all rfl | kernel_rfl)
      (case w_TAKE => decide)
      (case n_STEPS => first | rfl | with_unfolding_all rfl | kernel_rfl)
      (case n_MOST_COUNT => first | rfl | with_unfolding_all rfl | kernel_rfl)
      (case n_MOST_DEPTH => first | rfl | with_unfolding_all rfl | kernel_rfl)
      (case n_MOST_STEPS => first | rfl | with_unfolding_all rfl | kernel_rfl)
      (case n_MODES => first | rfl | with_unfolding_all rfl | kernel_rfl)
      (case l_MODES => first | rfl | with_unfolding_all rfl | kernel_rfl)
      (case n_MOST_CAPACITY => first | rfl | with_unfolding_all rfl | kernel_rfl)
      (case gx_InvalidInteger => first | rfl | with_unfolding_all rfl | kernel_rfl)
      (case q_InvalidInteger => first | rfl | with_unfolding_all rfl | kernel_rfl)
      (case k_InvalidInteger => first | rfl | with_unfolding_all rfl | kernel_rfl)
      (case b_InvalidInteger => first | rfl | with_unfolding_all rfl | kernel_rfl)
      (case t_InvalidInteger => first | rfl | with_unfolding_all rfl | kernel_rfl)
      (case i_InvalidInteger => first | rfl | with_unfolding_all rfl | kernel_rfl)
      (case s_InvalidInteger => first | rfl | with_unfolding_all rfl | kernel_rfl)
      (case gx_InvalidMode => first | rfl | with_unfolding_all rfl | kernel_rfl)
      (case q_InvalidMode => first | rfl | with_unfolding_all rfl | kernel_rfl)
      (case k_InvalidMode => first | rfl | with_unfolding_all rfl | kernel_rfl)
      (case b_InvalidMode => first | rfl | with_unfolding_all rfl | kernel_rfl)
      (case t_InvalidMode => first | rfl | with_unfolding_all rfl | kernel_rfl)
      (case i_InvalidMode => first | rfl | with_unfolding_all rfl | kernel_rfl)
      (case s_InvalidMode => first | rfl | with_unfolding_all rfl | kernel_rfl)
      (case gx_InvalidProgram => first | rfl | with_unfolding_all rfl | kernel_rfl)
      (case q_InvalidProgram => first | rfl | with_unfolding_all rfl | kernel_rfl)
      (case k_InvalidProgram => first | rfl | with_unfolding_all rfl | kernel_rfl)
      (case b_InvalidProgram => first | rfl | with_unfolding_all rfl | kernel_rfl)
      (case t_InvalidProgram => first | rfl | with_unfolding_all rfl | kernel_rfl)
      (case i_InvalidProgram => first | rfl | with_unfolding_all rfl | kernel_rfl)
      (case s_InvalidProgram => first | rfl | with_unfolding_all rfl | kernel_rfl)
      (case gx_InvalidCapacity => first | rfl | with_unfolding_all rfl | kernel_rfl)
      (case q_InvalidCapacity => first | rfl | with_unfolding_all rfl | kernel_rfl)
      (case k_InvalidCapacity => first | rfl | with_unfolding_all rfl | kernel_rfl)
      (case b_InvalidCapacity => first | rfl | with_unfolding_all rfl | kernel_rfl)
      (case t_InvalidCapacity => first | rfl | with_unfolding_all rfl | kernel_rfl)
      (case i_InvalidCapacity => first | rfl | with_unfolding_all rfl | kernel_rfl)
      (case s_InvalidCapacity => first | rfl | with_unfolding_all rfl | kernel_rfl)


