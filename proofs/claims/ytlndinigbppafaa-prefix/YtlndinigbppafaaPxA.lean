/-
  The law Prefix: its own frame, up to the call of Proofs.
-/
import Derived.Test.YtlndinigbppafaaJ34
import Derived.Test.YtlndinigbppafaaCanE
import Derived.Test.YtlndinigbppafaaLogD
namespace Go.Proofs.Ytlndinigbppafaa
open Go.Sim Go.Conc Go.Fi

def r8_0 : Array Oper :=
  #[{ dst := some 6, op := .assign (.const (.bool false)), type := 4, pos := "keeps.go:279", after := #[], guard := none }]
def r8_1 : Array Oper :=
  #[{ dst := some 27, op := .call { callee := .value (.func 19), args := #[], argTypes := #[] }, type := 4, pos := "keeps.go:280", after := #[], guard := none },
    { dst := some 7, op := .assign (.tmp 27), type := 4, pos := "keeps.go:280", after := #[{ on := 0, ground := .data }, { on := 0, ground := .chain }, { on := 0, ground := .phase }], guard := none }]
def r8_2 : Array Oper :=
  #[{ dst := some 29, op := .move (.tmp 0), type := 22, pos := "keeps.go:281", after := #[], guard := none },
    { dst := some 30, op := .call { callee := .value (.func 20), args := #[.tmp 29], argTypes := #[22] }, type := 49, pos := "keeps.go:281", after := #[{ on := 0, ground := .data }], guard := none },
    { dst := some 28, op := .move (.tmp 30), type := 49, pos := "keeps.go:281", after := #[{ on := 1, ground := .data }], guard := none },
    { dst := some 31, op := .extract (.tmp 28) 0, type := 48, pos := "keeps.go:281", after := #[{ on := 2, ground := .data }], guard := none },
    { dst := some 32, op := .extract (.tmp 28) 1, type := 22, pos := "keeps.go:281", after := #[{ on := 2, ground := .data }, { on := 6, ground := .gcOnly .lateStores }], guard := none },
    { dst := some 33, op := .extract (.tmp 28) 2, type := 4, pos := "keeps.go:281", after := #[{ on := 2, ground := .data }, { on := 7, ground := .gcOnly .lateStores }], guard := none },
    { dst := some 8, op := .assign (.tmp 31), type := 48, pos := "keeps.go:281", after := #[{ on := 3, ground := .data }, { on := 1, ground := .chain }, { on := 0, ground := .phase }, { on := 1, ground := .phase }, { on := 2, ground := .phase }, { on := 3, ground := .phase }, { on := 4, ground := .textOnly .lateStores }, { on := 5, ground := .textOnly .lateStores }], guard := none },
    { dst := some 9, op := .assign (.tmp 32), type := 22, pos := "keeps.go:281", after := #[{ on := 4, ground := .data }, { on := 6, ground := .chain }, { on := 0, ground := .phase }, { on := 1, ground := .phase }, { on := 2, ground := .phase }, { on := 3, ground := .phase }, { on := 4, ground := .phase }, { on := 5, ground := .textOnly .lateStores }, { on := 6, ground := .phase }], guard := none },
    { dst := some 10, op := .assign (.tmp 33), type := 4, pos := "keeps.go:281", after := #[{ on := 5, ground := .data }, { on := 7, ground := .chain }, { on := 0, ground := .phase }, { on := 1, ground := .phase }, { on := 2, ground := .phase }, { on := 3, ground := .phase }, { on := 4, ground := .phase }, { on := 5, ground := .phase }, { on := 6, ground := .phase }, { on := 7, ground := .phase }], guard := none }]
def r8_3 : Array Oper :=
  #[{ dst := some 34, op := .move (.tmp 7), type := 4, pos := "keeps.go:282", after := #[], guard := none },
    { dst := some 35, op := .unOp .not 4 (.tmp 34), type := 4, pos := "keeps.go:282", after := #[{ on := 0, ground := .data }], guard := none },
    { dst := some 36, op := .move (.tmp 35), type := 4, pos := "keeps.go:282", after := #[{ on := 1, ground := .data }], guard := none },
    { dst := some 37, op := .move (.tmp 10), type := 4, pos := "keeps.go:282", after := #[{ on := 2, ground := .guard }], guard := some (2, false) },
    { dst := some 38, op := .unOp .not 4 (.tmp 37), type := 4, pos := "keeps.go:282", after := #[{ on := 3, ground := .data }, { on := 2, ground := .guard }], guard := some (2, false) },
    { dst := some 39, op := .pick (.tmp 36) (.const (.bool true)) (.tmp 38), type := 4, pos := "keeps.go:282", after := #[{ on := 2, ground := .data }, { on := 4, ground := .data }], guard := none }]
def r8_4 : Array Oper :=
  #[{ dst := some 6, op := .assign (.const (.bool false)), type := 4, pos := "keeps.go:283", after := #[], guard := none }]
def r8_5 : Array Oper :=
  #[{ dst := some 40, op := .move (.tmp 1), type := 3, pos := "keeps.go:285", after := #[], guard := none },
    { dst := some 41, op := .move (.tmp 9), type := 22, pos := "keeps.go:285", after := #[], guard := none },
    { dst := some 42, op := .call { callee := .builtin .len, args := #[.tmp 41], argTypes := #[22] }, type := 3, pos := "keeps.go:285", after := #[{ on := 1, ground := .data }], guard := none },
    { dst := some 43, op := .call { callee := .value (.func 21), args := #[.tmp 40, .tmp 42], argTypes := #[3, 3] }, type := 3, pos := "keeps.go:285", after := #[{ on := 0, ground := .data }, { on := 2, ground := .data }], guard := none },
    { dst := some 44, op := .binOp .add 3 (.const (.int .i64 1)) (.tmp 43) 3, type := 3, pos := "keeps.go:285", after := #[{ on := 3, ground := .data }], guard := none },
    { dst := some 1, op := .assign (.tmp 44), type := 3, pos := "keeps.go:285", after := #[{ on := 4, ground := .data }, { on := 3, ground := .chain }, { on := 0, ground := .phase }, { on := 1, ground := .phase }, { on := 2, ground := .phase }, { on := 3, ground := .phase }, { on := 4, ground := .phase }], guard := none }]
def r8_6 : Array Oper :=
  #[{ dst := some 46, op := .move (.tmp 9), type := 22, pos := "keeps.go:286", after := #[], guard := none },
    { dst := some 47, op := .move (.tmp 1), type := 3, pos := "keeps.go:286", after := #[], guard := none },
    { dst := some 48, op := .slice 22 (.tmp 46) none (some (.tmp 47)) none, type := 22, pos := "keeps.go:286", after := #[{ on := 0, ground := .data }, { on := 1, ground := .data }], guard := none },
    { dst := some 49, op := .call { callee := .value (.func 20), args := #[.tmp 48], argTypes := #[22] }, type := 49, pos := "keeps.go:286", after := #[{ on := 2, ground := .data }], guard := none },
    { dst := some 45, op := .move (.tmp 49), type := 49, pos := "keeps.go:286", after := #[{ on := 3, ground := .data }], guard := none },
    { dst := some 50, op := .extract (.tmp 45) 0, type := 48, pos := "keeps.go:286", after := #[{ on := 4, ground := .data }], guard := none },
    { dst := some 51, op := .extract (.tmp 45) 1, type := 22, pos := "keeps.go:286", after := #[{ on := 4, ground := .data }, { on := 8, ground := .gcOnly .lateStores }], guard := none },
    { dst := some 52, op := .extract (.tmp 45) 2, type := 4, pos := "keeps.go:286", after := #[{ on := 4, ground := .data }, { on := 9, ground := .gcOnly .lateStores }], guard := none },
    { dst := some 11, op := .assign (.tmp 50), type := 48, pos := "keeps.go:286", after := #[{ on := 5, ground := .data }, { on := 3, ground := .chain }, { on := 0, ground := .phase }, { on := 1, ground := .phase }, { on := 2, ground := .phase }, { on := 3, ground := .phase }, { on := 4, ground := .phase }, { on := 5, ground := .phase }, { on := 6, ground := .textOnly .lateStores }, { on := 7, ground := .textOnly .lateStores }], guard := none },
    { dst := some 12, op := .assign (.tmp 51), type := 22, pos := "keeps.go:286", after := #[{ on := 6, ground := .data }, { on := 8, ground := .chain }, { on := 0, ground := .phase }, { on := 1, ground := .phase }, { on := 2, ground := .phase }, { on := 3, ground := .phase }, { on := 4, ground := .phase }, { on := 5, ground := .phase }, { on := 6, ground := .phase }, { on := 7, ground := .textOnly .lateStores }, { on := 8, ground := .phase }], guard := none },
    { dst := some 10, op := .assign (.tmp 52), type := 4, pos := "keeps.go:286", after := #[{ on := 7, ground := .data }, { on := 9, ground := .chain }, { on := 0, ground := .phase }, { on := 1, ground := .phase }, { on := 2, ground := .phase }, { on := 3, ground := .phase }, { on := 4, ground := .phase }, { on := 5, ground := .phase }, { on := 6, ground := .phase }, { on := 7, ground := .phase }, { on := 8, ground := .phase }, { on := 9, ground := .phase }], guard := none }]
def r8_7 : Array Oper :=
  #[{ dst := some 53, op := .move (.tmp 10), type := 4, pos := "keeps.go:287", after := #[], guard := none },
    { dst := some 54, op := .unOp .not 4 (.tmp 53), type := 4, pos := "keeps.go:287", after := #[{ on := 0, ground := .data }], guard := none }]
def r8_8 : Array Oper :=
  #[{ dst := some 6, op := .assign (.const (.bool false)), type := 4, pos := "keeps.go:288", after := #[], guard := none }]
def r8_9 : Array Oper :=
  #[{ dst := some 55, op := .move (.tmp 2), type := 3, pos := "keeps.go:290", after := #[], guard := none },
    { dst := some 56, op := .move (.tmp 1), type := 3, pos := "keeps.go:290", after := #[], guard := none },
    { dst := some 57, op := .call { callee := .value (.func 21), args := #[.tmp 55, .tmp 56], argTypes := #[3, 3] }, type := 3, pos := "keeps.go:290", after := #[{ on := 0, ground := .data }, { on := 1, ground := .data }], guard := none },
    { dst := some 2, op := .assign (.tmp 57), type := 3, pos := "keeps.go:290", after := #[{ on := 2, ground := .data }, { on := 2, ground := .chain }, { on := 0, ground := .phase }, { on := 1, ground := .phase }, { on := 2, ground := .phase }], guard := none }]
def r8_10 : Array Oper :=
  #[{ dst := some 59, op := .move (.tmp 8), type := 48, pos := "keeps.go:291", after := #[], guard := none },
    { dst := some 60, op := .move (.tmp 2), type := 3, pos := "keeps.go:291", after := #[], guard := none },
    { dst := some 61, op := .binOp .add 3 (.tmp 60) (.const (.int .i64 1)) 3, type := 3, pos := "keeps.go:291", after := #[{ on := 1, ground := .data }], guard := none },
    { dst := some 62, op := .move (.tmp 1), type := 3, pos := "keeps.go:291", after := #[], guard := none },
    { dst := some 63, op := .call { callee := .value (.func 22), args := #[.tmp 59, .tmp 61, .tmp 62], argTypes := #[48, 3, 3] }, type := 53, pos := "keeps.go:291", after := #[{ on := 0, ground := .data }, { on := 2, ground := .data }, { on := 3, ground := .data }], guard := none },
    { dst := some 58, op := .move (.tmp 63), type := 53, pos := "keeps.go:291", after := #[{ on := 4, ground := .data }], guard := none },
    { dst := some 64, op := .extract (.tmp 58) 0, type := 24, pos := "keeps.go:291", after := #[{ on := 5, ground := .data }], guard := none },
    { dst := some 65, op := .extract (.tmp 58) 1, type := 52, pos := "keeps.go:291", after := #[{ on := 5, ground := .data }, { on := 8, ground := .gcOnly .lateStores }], guard := none },
    { dst := some 13, op := .assign (.tmp 64), type := 24, pos := "keeps.go:291", after := #[{ on := 6, ground := .data }, { on := 4, ground := .chain }, { on := 0, ground := .phase }, { on := 1, ground := .phase }, { on := 2, ground := .phase }, { on := 3, ground := .phase }, { on := 4, ground := .phase }, { on := 5, ground := .phase }, { on := 6, ground := .phase }, { on := 7, ground := .textOnly .lateStores }], guard := none },
    { dst := some 14, op := .assign (.tmp 65), type := 52, pos := "keeps.go:291", after := #[{ on := 7, ground := .data }, { on := 8, ground := .chain }, { on := 0, ground := .phase }, { on := 1, ground := .phase }, { on := 2, ground := .phase }, { on := 3, ground := .phase }, { on := 4, ground := .phase }, { on := 5, ground := .phase }, { on := 6, ground := .phase }, { on := 7, ground := .phase }, { on := 8, ground := .phase }], guard := none }]
def r8_11 : Array Oper :=
  #[{ dst := some 67, op := .move (.tmp 11), type := 48, pos := "keeps.go:292", after := #[], guard := none },
    { dst := some 68, op := .move (.tmp 2), type := 3, pos := "keeps.go:292", after := #[], guard := none },
    { dst := some 69, op := .binOp .add 3 (.tmp 68) (.const (.int .i64 1)) 3, type := 3, pos := "keeps.go:292", after := #[{ on := 1, ground := .data }], guard := none },
    { dst := some 70, op := .move (.tmp 1), type := 3, pos := "keeps.go:292", after := #[], guard := none },
    { dst := some 71, op := .call { callee := .value (.func 22), args := #[.tmp 67, .tmp 69, .tmp 70], argTypes := #[48, 3, 3] }, type := 53, pos := "keeps.go:292", after := #[{ on := 0, ground := .data }, { on := 2, ground := .data }, { on := 3, ground := .data }], guard := none },
    { dst := some 66, op := .move (.tmp 71), type := 53, pos := "keeps.go:292", after := #[{ on := 4, ground := .data }], guard := none },
    { dst := some 72, op := .extract (.tmp 66) 0, type := 24, pos := "keeps.go:292", after := #[{ on := 5, ground := .data }], guard := none },
    { dst := some 73, op := .extract (.tmp 66) 1, type := 52, pos := "keeps.go:292", after := #[{ on := 5, ground := .data }, { on := 8, ground := .gcOnly .lateStores }], guard := none },
    { dst := some 15, op := .assign (.tmp 72), type := 24, pos := "keeps.go:292", after := #[{ on := 6, ground := .data }, { on := 4, ground := .chain }, { on := 0, ground := .phase }, { on := 1, ground := .phase }, { on := 2, ground := .phase }, { on := 3, ground := .phase }, { on := 4, ground := .phase }, { on := 5, ground := .phase }, { on := 6, ground := .phase }, { on := 7, ground := .textOnly .lateStores }], guard := none },
    { dst := some 16, op := .assign (.tmp 73), type := 52, pos := "keeps.go:292", after := #[{ on := 7, ground := .data }, { on := 8, ground := .chain }, { on := 0, ground := .phase }, { on := 1, ground := .phase }, { on := 2, ground := .phase }, { on := 3, ground := .phase }, { on := 4, ground := .phase }, { on := 5, ground := .phase }, { on := 6, ground := .phase }, { on := 7, ground := .phase }, { on := 8, ground := .phase }], guard := none }]
def r8_12 : Array Oper :=
  #[{ dst := some 75, op := .move (.tmp 8), type := 48, pos := "keeps.go:293", after := #[], guard := none },
    { dst := some 76, op := .move (.tmp 2), type := 3, pos := "keeps.go:293", after := #[], guard := none },
    { dst := some 77, op := .move (.tmp 1), type := 3, pos := "keeps.go:293", after := #[], guard := none },
    { dst := some 78, op := .call { callee := .value (.func 23), args := #[.tmp 75, .tmp 76, .tmp 77], argTypes := #[48, 3, 3] }, type := 53, pos := "keeps.go:293", after := #[{ on := 0, ground := .data }, { on := 1, ground := .data }, { on := 2, ground := .data }], guard := none },
    { dst := some 74, op := .move (.tmp 78), type := 53, pos := "keeps.go:293", after := #[{ on := 3, ground := .data }], guard := none },
    { dst := some 79, op := .extract (.tmp 74) 0, type := 24, pos := "keeps.go:293", after := #[{ on := 4, ground := .data }], guard := none },
    { dst := some 80, op := .extract (.tmp 74) 1, type := 52, pos := "keeps.go:293", after := #[{ on := 4, ground := .data }, { on := 7, ground := .gcOnly .lateStores }], guard := none },
    { dst := some 17, op := .assign (.tmp 79), type := 24, pos := "keeps.go:293", after := #[{ on := 5, ground := .data }, { on := 3, ground := .chain }, { on := 0, ground := .phase }, { on := 1, ground := .phase }, { on := 2, ground := .phase }, { on := 3, ground := .phase }, { on := 4, ground := .phase }, { on := 5, ground := .phase }, { on := 6, ground := .textOnly .lateStores }], guard := none },
    { dst := some 18, op := .assign (.tmp 80), type := 52, pos := "keeps.go:293", after := #[{ on := 6, ground := .data }, { on := 7, ground := .chain }, { on := 0, ground := .phase }, { on := 1, ground := .phase }, { on := 2, ground := .phase }, { on := 3, ground := .phase }, { on := 4, ground := .phase }, { on := 5, ground := .phase }, { on := 6, ground := .phase }, { on := 7, ground := .phase }], guard := none }]
def r8_13 : Array Oper :=
  #[{ dst := some 82, op := .move (.tmp 11), type := 48, pos := "keeps.go:294", after := #[], guard := none },
    { dst := some 83, op := .move (.tmp 2), type := 3, pos := "keeps.go:294", after := #[], guard := none },
    { dst := some 84, op := .move (.tmp 1), type := 3, pos := "keeps.go:294", after := #[], guard := none },
    { dst := some 85, op := .call { callee := .value (.func 23), args := #[.tmp 82, .tmp 83, .tmp 84], argTypes := #[48, 3, 3] }, type := 53, pos := "keeps.go:294", after := #[{ on := 0, ground := .data }, { on := 1, ground := .data }, { on := 2, ground := .data }], guard := none },
    { dst := some 81, op := .move (.tmp 85), type := 53, pos := "keeps.go:294", after := #[{ on := 3, ground := .data }], guard := none },
    { dst := some 86, op := .extract (.tmp 81) 0, type := 24, pos := "keeps.go:294", after := #[{ on := 4, ground := .data }], guard := none },
    { dst := some 87, op := .extract (.tmp 81) 1, type := 52, pos := "keeps.go:294", after := #[{ on := 4, ground := .data }, { on := 7, ground := .gcOnly .lateStores }], guard := none },
    { dst := some 19, op := .assign (.tmp 86), type := 24, pos := "keeps.go:294", after := #[{ on := 5, ground := .data }, { on := 3, ground := .chain }, { on := 0, ground := .phase }, { on := 1, ground := .phase }, { on := 2, ground := .phase }, { on := 3, ground := .phase }, { on := 4, ground := .phase }, { on := 5, ground := .phase }, { on := 6, ground := .textOnly .lateStores }], guard := none },
    { dst := some 20, op := .assign (.tmp 87), type := 52, pos := "keeps.go:294", after := #[{ on := 6, ground := .data }, { on := 7, ground := .chain }, { on := 0, ground := .phase }, { on := 1, ground := .phase }, { on := 2, ground := .phase }, { on := 3, ground := .phase }, { on := 4, ground := .phase }, { on := 5, ground := .phase }, { on := 6, ground := .phase }, { on := 7, ground := .phase }], guard := none }]
def r8_14 : Array Oper :=
  #[{ dst := some 89, op := .move (.tmp 8), type := 48, pos := "keeps.go:295", after := #[], guard := none },
    { dst := some 90, op := .move (.tmp 1), type := 3, pos := "keeps.go:295", after := #[], guard := none },
    { dst := some 91, op := .call { callee := .value (.func 24), args := #[.tmp 89, .tmp 90], argTypes := #[48, 3] }, type := 55, pos := "keeps.go:295", after := #[{ on := 0, ground := .data }, { on := 1, ground := .data }], guard := none },
    { dst := some 88, op := .move (.tmp 91), type := 55, pos := "keeps.go:295", after := #[{ on := 2, ground := .data }], guard := none },
    { dst := some 92, op := .extract (.tmp 88) 0, type := 23, pos := "keeps.go:295", after := #[{ on := 3, ground := .data }], guard := none },
    { dst := some 93, op := .extract (.tmp 88) 1, type := 52, pos := "keeps.go:295", after := #[{ on := 3, ground := .data }, { on := 6, ground := .gcOnly .lateStores }], guard := none },
    { dst := some 21, op := .assign (.tmp 92), type := 23, pos := "keeps.go:295", after := #[{ on := 4, ground := .data }, { on := 2, ground := .chain }, { on := 0, ground := .phase }, { on := 1, ground := .phase }, { on := 2, ground := .phase }, { on := 3, ground := .phase }, { on := 4, ground := .phase }, { on := 5, ground := .textOnly .lateStores }], guard := none },
    { dst := some 22, op := .assign (.tmp 93), type := 52, pos := "keeps.go:295", after := #[{ on := 5, ground := .data }, { on := 6, ground := .chain }, { on := 0, ground := .phase }, { on := 1, ground := .phase }, { on := 2, ground := .phase }, { on := 3, ground := .phase }, { on := 4, ground := .phase }, { on := 5, ground := .phase }, { on := 6, ground := .phase }], guard := none }]
def r8_15 : Array Oper :=
  #[{ dst := some 95, op := .move (.tmp 11), type := 48, pos := "keeps.go:296", after := #[], guard := none },
    { dst := some 96, op := .move (.tmp 1), type := 3, pos := "keeps.go:296", after := #[], guard := none },
    { dst := some 97, op := .call { callee := .value (.func 25), args := #[.tmp 95, .tmp 96], argTypes := #[48, 3] }, type := 57, pos := "keeps.go:296", after := #[{ on := 0, ground := .data }, { on := 1, ground := .data }], guard := none },
    { dst := some 94, op := .move (.tmp 97), type := 57, pos := "keeps.go:296", after := #[{ on := 2, ground := .data }], guard := none },
    { dst := some 98, op := .extract (.tmp 94) 0, type := 3, pos := "keeps.go:296", after := #[{ on := 3, ground := .data }], guard := none },
    { dst := some 99, op := .extract (.tmp 94) 1, type := 52, pos := "keeps.go:296", after := #[{ on := 3, ground := .data }, { on := 6, ground := .gcOnly .lateStores }], guard := none },
    { dst := some 23, op := .assign (.tmp 98), type := 3, pos := "keeps.go:296", after := #[{ on := 4, ground := .data }, { on := 2, ground := .chain }, { on := 0, ground := .phase }, { on := 1, ground := .phase }, { on := 2, ground := .phase }, { on := 3, ground := .phase }, { on := 4, ground := .phase }, { on := 5, ground := .textOnly .lateStores }], guard := none },
    { dst := some 24, op := .assign (.tmp 99), type := 52, pos := "keeps.go:296", after := #[{ on := 5, ground := .data }, { on := 6, ground := .chain }, { on := 0, ground := .phase }, { on := 1, ground := .phase }, { on := 2, ground := .phase }, { on := 3, ground := .phase }, { on := 4, ground := .phase }, { on := 5, ground := .phase }, { on := 6, ground := .phase }], guard := none }]
def r8_16 : Array Oper :=
  #[{ dst := some 101, op := .move (.tmp 8), type := 48, pos := "keeps.go:297", after := #[], guard := none },
    { dst := some 102, op := .move (.tmp 1), type := 3, pos := "keeps.go:297", after := #[], guard := none },
    { dst := some 103, op := .call { callee := .value (.func 25), args := #[.tmp 101, .tmp 102], argTypes := #[48, 3] }, type := 57, pos := "keeps.go:297", after := #[{ on := 0, ground := .data }, { on := 1, ground := .data }], guard := none },
    { dst := some 100, op := .move (.tmp 103), type := 57, pos := "keeps.go:297", after := #[{ on := 2, ground := .data }], guard := none },
    { dst := some 104, op := .extract (.tmp 100) 0, type := 3, pos := "keeps.go:297", after := #[{ on := 3, ground := .data }], guard := none },
    { dst := some 105, op := .extract (.tmp 100) 1, type := 52, pos := "keeps.go:297", after := #[{ on := 3, ground := .data }, { on := 6, ground := .gcOnly .lateStores }], guard := none },
    { dst := some 25, op := .assign (.tmp 104), type := 3, pos := "keeps.go:297", after := #[{ on := 4, ground := .data }, { on := 2, ground := .chain }, { on := 0, ground := .phase }, { on := 1, ground := .phase }, { on := 2, ground := .phase }, { on := 3, ground := .phase }, { on := 4, ground := .phase }, { on := 5, ground := .textOnly .lateStores }], guard := none },
    { dst := some 26, op := .assign (.tmp 105), type := 52, pos := "keeps.go:297", after := #[{ on := 5, ground := .data }, { on := 6, ground := .chain }, { on := 0, ground := .phase }, { on := 1, ground := .phase }, { on := 2, ground := .phase }, { on := 3, ground := .phase }, { on := 4, ground := .phase }, { on := 5, ground := .phase }, { on := 6, ground := .phase }], guard := none }]
def r8_17 : Array Oper :=
  #[{ dst := some 106, op := .move (.tmp 14), type := 52, pos := "keeps.go:298", after := #[], guard := none },
    { dst := some 107, op := .binOp .neq 52 (.tmp 106) (.const (.int .i64 0)) 52, type := 4, pos := "keeps.go:298", after := #[{ on := 0, ground := .data }], guard := none },
    { dst := some 108, op := .move (.tmp 107), type := 4, pos := "keeps.go:298", after := #[{ on := 1, ground := .data }], guard := none },
    { dst := some 109, op := .move (.tmp 16), type := 52, pos := "keeps.go:298", after := #[{ on := 2, ground := .guard }], guard := some (2, false) },
    { dst := some 110, op := .binOp .neq 52 (.tmp 109) (.const (.int .i64 0)) 52, type := 4, pos := "keeps.go:298", after := #[{ on := 3, ground := .data }, { on := 2, ground := .guard }], guard := some (2, false) },
    { dst := some 111, op := .pick (.tmp 108) (.const (.bool true)) (.tmp 110), type := 4, pos := "keeps.go:298", after := #[{ on := 2, ground := .data }, { on := 4, ground := .data }], guard := none },
    { dst := some 112, op := .move (.tmp 111), type := 4, pos := "keeps.go:298", after := #[{ on := 5, ground := .data }, { on := 2, ground := .chain }], guard := none },
    { dst := some 113, op := .move (.tmp 18), type := 52, pos := "keeps.go:298", after := #[{ on := 6, ground := .guard }], guard := some (6, false) },
    { dst := some 114, op := .binOp .neq 52 (.tmp 113) (.const (.int .i64 0)) 52, type := 4, pos := "keeps.go:298", after := #[{ on := 7, ground := .data }, { on := 6, ground := .guard }], guard := some (6, false) },
    { dst := some 115, op := .pick (.tmp 112) (.const (.bool true)) (.tmp 114), type := 4, pos := "keeps.go:298", after := #[{ on := 6, ground := .data }, { on := 8, ground := .data }], guard := none },
    { dst := some 116, op := .move (.tmp 115), type := 4, pos := "keeps.go:298", after := #[{ on := 9, ground := .data }, { on := 6, ground := .chain }], guard := none },
    { dst := some 117, op := .move (.tmp 20), type := 52, pos := "keeps.go:298", after := #[{ on := 10, ground := .guard }], guard := some (10, false) },
    { dst := some 118, op := .binOp .neq 52 (.tmp 117) (.const (.int .i64 0)) 52, type := 4, pos := "keeps.go:298", after := #[{ on := 11, ground := .data }, { on := 10, ground := .guard }], guard := some (10, false) },
    { dst := some 119, op := .pick (.tmp 116) (.const (.bool true)) (.tmp 118), type := 4, pos := "keeps.go:298", after := #[{ on := 10, ground := .data }, { on := 12, ground := .data }], guard := none },
    { dst := some 120, op := .move (.tmp 119), type := 4, pos := "keeps.go:298", after := #[{ on := 13, ground := .data }, { on := 10, ground := .chain }], guard := none },
    { dst := some 121, op := .move (.tmp 22), type := 52, pos := "keeps.go:298", after := #[{ on := 14, ground := .guard }], guard := some (14, false) },
    { dst := some 122, op := .binOp .neq 52 (.tmp 121) (.const (.int .i64 0)) 52, type := 4, pos := "keeps.go:298", after := #[{ on := 15, ground := .data }, { on := 14, ground := .guard }], guard := some (14, false) },
    { dst := some 123, op := .pick (.tmp 120) (.const (.bool true)) (.tmp 122), type := 4, pos := "keeps.go:298", after := #[{ on := 14, ground := .data }, { on := 16, ground := .data }], guard := none },
    { dst := some 124, op := .move (.tmp 123), type := 4, pos := "keeps.go:298", after := #[{ on := 17, ground := .data }, { on := 14, ground := .chain }], guard := none },
    { dst := some 125, op := .move (.tmp 24), type := 52, pos := "keeps.go:298", after := #[{ on := 18, ground := .guard }], guard := some (18, false) },
    { dst := some 126, op := .binOp .neq 52 (.tmp 125) (.const (.int .i64 0)) 52, type := 4, pos := "keeps.go:298", after := #[{ on := 19, ground := .data }, { on := 18, ground := .guard }], guard := some (18, false) },
    { dst := some 127, op := .pick (.tmp 124) (.const (.bool true)) (.tmp 126), type := 4, pos := "keeps.go:298", after := #[{ on := 18, ground := .data }, { on := 20, ground := .data }], guard := none },
    { dst := some 128, op := .move (.tmp 127), type := 4, pos := "keeps.go:298", after := #[{ on := 21, ground := .data }, { on := 18, ground := .chain }], guard := none },
    { dst := some 129, op := .move (.tmp 26), type := 52, pos := "keeps.go:298", after := #[{ on := 22, ground := .guard }], guard := some (22, false) },
    { dst := some 130, op := .binOp .neq 52 (.tmp 129) (.const (.int .i64 0)) 52, type := 4, pos := "keeps.go:298", after := #[{ on := 23, ground := .data }, { on := 22, ground := .guard }], guard := some (22, false) },
    { dst := some 131, op := .pick (.tmp 128) (.const (.bool true)) (.tmp 130), type := 4, pos := "keeps.go:298", after := #[{ on := 22, ground := .data }, { on := 24, ground := .data }], guard := none },
    { dst := some 132, op := .move (.tmp 131), type := 4, pos := "keeps.go:298", after := #[{ on := 25, ground := .data }, { on := 22, ground := .chain }], guard := none },
    { dst := some 133, op := .move (.tmp 21), type := 23, pos := "keeps.go:298", after := #[{ on := 26, ground := .guard }], guard := some (26, false) },
    { dst := some 134, op := .call { callee := .builtin .len, args := #[.tmp 133], argTypes := #[23] }, type := 3, pos := "keeps.go:298", after := #[{ on := 27, ground := .data }, { on := 26, ground := .guard }], guard := some (26, false) },
    { dst := some 135, op := .move (.tmp 1), type := 3, pos := "keeps.go:298", after := #[{ on := 26, ground := .guard }], guard := some (26, false) },
    { dst := some 136, op := .binOp .neq 3 (.tmp 134) (.tmp 135) 3, type := 4, pos := "keeps.go:298", after := #[{ on := 28, ground := .data }, { on := 29, ground := .data }, { on := 26, ground := .guard }], guard := some (26, false) },
    { dst := some 137, op := .pick (.tmp 132) (.const (.bool true)) (.tmp 136), type := 4, pos := "keeps.go:298", after := #[{ on := 26, ground := .data }, { on := 30, ground := .data }], guard := none }]
def r8_18 : Array Oper :=
  #[{ dst := some 6, op := .assign (.const (.bool false)), type := 4, pos := "keeps.go:299", after := #[], guard := none }]
def r8_19 : Array Oper :=
  #[{ dst := some 138, op := .move (.tmp 13), type := 24, pos := "keeps.go:301", after := #[], guard := none },
    { dst := some 139, op := .convert 24 9 (.tmp 138), type := 9, pos := "keeps.go:301", after := #[{ on := 0, ground := .data }], guard := none },
    { dst := some 140, op := .move (.tmp 15), type := 24, pos := "keeps.go:301", after := #[], guard := none },
    { dst := some 141, op := .convert 24 9 (.tmp 140), type := 9, pos := "keeps.go:301", after := #[{ on := 2, ground := .data }], guard := none },
    { dst := some 142, op := .binOp .eql 9 (.tmp 139) (.tmp 141) 9, type := 4, pos := "keeps.go:301", after := #[{ on := 1, ground := .data }, { on := 3, ground := .data }], guard := none },
    { dst := some 143, op := .move (.tmp 142), type := 4, pos := "keeps.go:301", after := #[{ on := 4, ground := .data }], guard := none },
    { dst := some 144, op := .move (.tmp 17), type := 24, pos := "keeps.go:301", after := #[{ on := 5, ground := .guard }], guard := some (5, true) },
    { dst := some 145, op := .convert 24 9 (.tmp 144), type := 9, pos := "keeps.go:301", after := #[{ on := 6, ground := .data }, { on := 5, ground := .guard }], guard := some (5, true) },
    { dst := some 146, op := .move (.tmp 19), type := 24, pos := "keeps.go:301", after := #[{ on := 5, ground := .guard }], guard := some (5, true) },
    { dst := some 147, op := .convert 24 9 (.tmp 146), type := 9, pos := "keeps.go:301", after := #[{ on := 8, ground := .data }, { on := 5, ground := .guard }], guard := some (5, true) },
    { dst := some 148, op := .binOp .eql 9 (.tmp 145) (.tmp 147) 9, type := 4, pos := "keeps.go:301", after := #[{ on := 7, ground := .data }, { on := 9, ground := .data }, { on := 5, ground := .guard }], guard := some (5, true) },
    { dst := some 149, op := .pick (.tmp 143) (.tmp 148) (.const (.bool false)), type := 4, pos := "keeps.go:301", after := #[{ on := 5, ground := .data }, { on := 10, ground := .data }], guard := none },
    { dst := some 150, op := .move (.tmp 149), type := 4, pos := "keeps.go:301", after := #[{ on := 11, ground := .data }, { on := 5, ground := .chain }], guard := none },
    { dst := some 151, op := .move (.tmp 21), type := 23, pos := "keeps.go:301", after := #[{ on := 12, ground := .guard }], guard := some (12, true) },
    { dst := some 152, op := .move (.tmp 2), type := 3, pos := "keeps.go:301", after := #[{ on := 12, ground := .guard }], guard := some (12, true) },
    { dst := some 153, op := .indexAddr 23 (.tmp 151) (.tmp 152), type := 0, pos := "keeps.go:301", after := #[{ on := 13, ground := .data }, { on := 14, ground := .data }, { on := 12, ground := .guard }], guard := some (12, true) },
    { dst := some 154, op := .load 24 (.tmp 153), type := 24, pos := "keeps.go:301", after := #[{ on := 15, ground := .data }, { on := 12, ground := .guard }], guard := some (12, true) },
    { dst := some 155, op := .convert 24 9 (.tmp 154), type := 9, pos := "keeps.go:301", after := #[{ on := 16, ground := .data }, { on := 12, ground := .guard }], guard := some (12, true) },
    { dst := some 156, op := .move (.tmp 17), type := 24, pos := "keeps.go:301", after := #[{ on := 12, ground := .guard }], guard := some (12, true) },
    { dst := some 157, op := .convert 24 9 (.tmp 156), type := 9, pos := "keeps.go:301", after := #[{ on := 18, ground := .data }, { on := 12, ground := .guard }], guard := some (12, true) },
    { dst := some 158, op := .binOp .eql 9 (.tmp 155) (.tmp 157) 9, type := 4, pos := "keeps.go:301", after := #[{ on := 17, ground := .data }, { on := 19, ground := .data }, { on := 12, ground := .guard }], guard := some (12, true) },
    { dst := some 159, op := .pick (.tmp 150) (.tmp 158) (.const (.bool false)), type := 4, pos := "keeps.go:301", after := #[{ on := 12, ground := .data }, { on := 20, ground := .data }], guard := none },
    { dst := some 160, op := .move (.tmp 159), type := 4, pos := "keeps.go:301", after := #[{ on := 21, ground := .data }, { on := 12, ground := .chain }], guard := none },
    { dst := some 161, op := .move (.tmp 23), type := 3, pos := "keeps.go:301", after := #[{ on := 22, ground := .guard }], guard := some (22, true) },
    { dst := some 162, op := .move (.tmp 25), type := 3, pos := "keeps.go:301", after := #[{ on := 22, ground := .guard }], guard := some (22, true) },
    { dst := some 163, op := .binOp .eql 3 (.tmp 161) (.tmp 162) 3, type := 4, pos := "keeps.go:301", after := #[{ on := 23, ground := .data }, { on := 24, ground := .data }, { on := 22, ground := .guard }], guard := some (22, true) },
    { dst := some 164, op := .pick (.tmp 160) (.tmp 163) (.const (.bool false)), type := 4, pos := "keeps.go:301", after := #[{ on := 22, ground := .data }, { on := 25, ground := .data }], guard := none },
    { dst := some 6, op := .assign (.tmp 164), type := 4, pos := "keeps.go:301", after := #[{ on := 26, ground := .data }, { on := 22, ground := .chain }, { on := 0, ground := .phase }, { on := 1, ground := .phase }, { on := 2, ground := .phase }, { on := 3, ground := .phase }, { on := 4, ground := .phase }, { on := 5, ground := .phase }, { on := 6, ground := .phase }, { on := 7, ground := .phase }, { on := 8, ground := .phase }, { on := 9, ground := .phase }, { on := 10, ground := .phase }, { on := 11, ground := .phase }, { on := 12, ground := .phase }, { on := 13, ground := .phase }, { on := 14, ground := .phase }, { on := 15, ground := .phase }, { on := 16, ground := .phase }, { on := 17, ground := .phase }, { on := 18, ground := .phase }, { on := 19, ground := .phase }, { on := 20, ground := .phase }, { on := 21, ground := .phase }, { on := 22, ground := .phase }, { on := 23, ground := .phase }, { on := 24, ground := .phase }, { on := 25, ground := .phase }, { on := 26, ground := .phase }], guard := none }]
def c8rest : Code := .seq (.region 15 r8_15 false) (.seq (.region 16 r8_16 false) (.seq (.seq (.region 17 r8_17 false) (.cond (.tmp 137) (.seq (.region 18 r8_18 false) .ret) .skip)) (.seq (.region 19 r8_19 true) .ret)))
def c8mid : Code := .seq (.region 5 r8_5 false) (.seq (.region 6 r8_6 false) (.seq (.seq (.region 7 r8_7 false) (.cond (.tmp 54) (.seq (.region 8 r8_8 false) .ret) .skip)) (.seq (.region 9 r8_9 false) (.seq (.region 10 r8_10 false) (.seq (.region 11 r8_11 false) (.seq (.region 12 r8_12 false) (.seq (.region 13 r8_13 false) (.seq (.region 14 r8_14 false) c8rest))))))))
def c8 : Code := .seq (.region 0 r8_0 false) (.seq (.region 1 r8_1 false) (.seq (.region 2 r8_2 false) (.seq (.seq (.region 3 r8_3 false) (.cond (.tmp 39) (.seq (.region 4 r8_4 false) .ret) .skip)) c8mid)))
def px1 (v : Value) (n i : Int) (B1 : Nat) (o1 : Value) : Act :=
  (⟨#[v, .int .i64 n, .int .i64 i, undef, undef, undef, .bool false, .bool true, .pointer (some ⟨B1, 0, none⟩), o1, .bool true, undef, undef, undef, undef, undef, undef, undef, undef, undef, undef, undef, undef, undef, undef, undef, undef, .bool true, .tuple #[.pointer (some ⟨B1, 0, none⟩), o1, .bool true], v, .tuple #[.pointer (some ⟨B1, 0, none⟩), o1, .bool true], .pointer (some ⟨B1, 0, none⟩), o1, .bool true, .bool true, .bool false, .bool false, .bool true, .bool false, .bool false, undef, undef, undef, undef, undef, undef, undef, undef, undef, undef, undef, undef, undef, undef, undef, undef, undef, undef, undef, undef, undef, undef, undef, undef, undef, undef, undef, undef, undef, undef, undef, undef, undef, undef, undef, undef, undef, undef, undef, undef, undef, undef, undef, undef, undef, undef, undef, undef, undef, undef, undef, undef, undef, undef, undef, undef, undef, undef, undef, undef, undef, undef, undef, undef, undef, undef, undef, undef, undef, undef, undef, undef, undef, undef, undef, undef, undef, undef, undef, undef, undef, undef, undef, undef, undef, undef, undef, undef, undef, undef, undef, undef, undef, undef, undef, undef, undef, undef, undef, undef, undef, undef, undef, undef, undef, undef, undef, undef, undef, undef, undef, undef, undef, undef, undef, undef, undef, undef, undef, undef, undef, undef, undef, undef, undef], []⟩ : Act)
theorem body8 : Try.f8.body = some c8 := rfl

theorem own_shape {w : World} {base n : Nat} {t : TypeId} {v : Value} {xs : List Value} (h : w.ownsRow base t 1 v n xs) (hn : 0 < n) : ∃ g cap, v = .slice (some ⟨g, 0, none⟩) n cap := by
  obtain ⟨_, h2⟩ := h
  rcases h2 with ⟨_, rfl⟩ | ⟨g, cap, cur, rfl, _⟩
  · omega
  · exact ⟨g, cap, rfl⟩
theorem map1 (f : Operand → Value) (x : Operand) : (#[x] : Array Operand).map f = [f x].toArray := by simp
theorem map2' (f : Operand → Value) (x y : Operand) : (#[x, y] : Array Operand).map f = [f x, f y].toArray := by simp
theorem map3' (f : Operand → Value) (x y z : Operand) : (#[x, y, z] : Array Operand).map f = [f x, f y, f z].toArray := by simp

section
variable {Gl : Array Goroutine → World → Option (Nat × Nat) → Trace → Prop}
theorem Can.conv {n : Nat} {b : Frame} {a a' : Act} {k : List Item} {cs : List Frame} {w : World} (h : a = a') (hK : Can Gl n (G (b.at a' k) cs) w) : Can Gl n (G (b.at a k) cs) w := by rw [h]; exact hK
end

section
variable {Gl : Array Goroutine → World → Option (Nat × Nat) → Trace → Prop}

set_option maxRecDepth 100000 in
set_option maxHeartbeats 2000000 in
theorem Can.prefix1 {Fo : FoT} {D : Nat → Prop} {ps : List ByteArray} {v : Value} {n i : Int} {w : World} (hv : StringsAt w v ps) (hn1 : ps.length ≤ 9223372036854775807) (hn2 : ∀ p ∈ ps, p.size ≤ 9223372036854775807) (hvs : SlV Fo v) (hext : ExtOK Fo D w) (hSf : Sf D w)
    (hK : ∀ {D' : Nat → Prop} {w' : World} {b0 B1 g1 cap1 : Nat} {S1 o1 : Value}, (∀ b, D b → D' b) → Vs D' (.pointer (some ⟨B1, 0, none⟩)) → Vs D' o1 → Sf D' w' → Bel w w' → LogAt w' b0 B1 S1 (keptL ps) → w'.ownsRow b0 9 1 o1 (keptL ps).length (strs8 (keptL ps)) → o1 = .slice (some ⟨g1, 0, none⟩) (keptL ps).length cap1 → Can Gl 0 (G ((base 8).at (px1 v n i B1 o1) [.code c8mid]) []) w') :
    Can Gl 0 (G ((base 8).at (⟨#[v, .int .i64 n, .int .i64 i, undef, undef, undef, undef, undef, undef, undef, undef, undef, undef, undef, undef, undef, undef, undef, undef, undef, undef, undef, undef, undef, undef, undef, undef, undef, undef, undef, undef, undef, undef, undef, undef, undef, undef, undef, undef, undef, undef, undef, undef, undef, undef, undef, undef, undef, undef, undef, undef, undef, undef, undef, undef, undef, undef, undef, undef, undef, undef, undef, undef, undef, undef, undef, undef, undef, undef, undef, undef, undef, undef, undef, undef, undef, undef, undef, undef, undef, undef, undef, undef, undef, undef, undef, undef, undef, undef, undef, undef, undef, undef, undef, undef, undef, undef, undef, undef, undef, undef, undef, undef, undef, undef, undef, undef, undef, undef, undef, undef, undef, undef, undef, undef, undef, undef, undef, undef, undef, undef, undef, undef, undef, undef, undef, undef, undef, undef, undef, undef, undef, undef, undef, undef, undef, undef, undef, undef, undef, undef, undef, undef, undef, undef, undef, undef, undef, undef, undef, undef, undef, undef, undef, undef, undef, undef, undef, undef, undef, undef, undef, undef, undef, undef], []⟩ : Act) [.code c8]) []) w := by
  have hk : (base 8).kind ≠ .early := by intro h; cases h
  refine Can.seq (Can.region (a' := (⟨#[v, .int .i64 n, .int .i64 i, undef, undef, undef, .bool false, undef, undef, undef, undef, undef, undef, undef, undef, undef, undef, undef, undef, undef, undef, undef, undef, undef, undef, undef, undef, undef, undef, undef, undef, undef, undef, undef, undef, undef, undef, undef, undef, undef, undef, undef, undef, undef, undef, undef, undef, undef, undef, undef, undef, undef, undef, undef, undef, undef, undef, undef, undef, undef, undef, undef, undef, undef, undef, undef, undef, undef, undef, undef, undef, undef, undef, undef, undef, undef, undef, undef, undef, undef, undef, undef, undef, undef, undef, undef, undef, undef, undef, undef, undef, undef, undef, undef, undef, undef, undef, undef, undef, undef, undef, undef, undef, undef, undef, undef, undef, undef, undef, undef, undef, undef, undef, undef, undef, undef, undef, undef, undef, undef, undef, undef, undef, undef, undef, undef, undef, undef, undef, undef, undef, undef, undef, undef, undef, undef, undef, undef, undef, undef, undef, undef, undef, undef, undef, undef, undef, undef, undef, undef, undef, undef, undef, undef, undef, undef, undef, undef, undef, undef, undef, undef, undef, undef, undef], []⟩ : Act)) hk (by kernel_rfl) ?_)
  refine Can.seq (Can.into ?_)
  refine Can.callE (Fo := Fo) (o := r8_1[0]) (vs := []) (Q := fun x u => x = .bool true ∧ Bel w u) hk rfl rfl rfl Try.func19 (by simp [Try.f19, names]) rfl (by simp [Try.f19]) (by simp) (fun x hx => ?_) hSf hext (fun x u τ q => ?_) (fun τ => ?_) ?_
  · simp at hx
  · exact ⟨q.1, q.2.tp τ⟩
  · exact (rooted_any (w.tp τ)).mono fun e u q => by
      obtain ⟨rfl, q⟩ := q
      exact ⟨rfl, Bel.of q⟩
  intro D1 x1 w1 d1 _ sf1 ext1 q1
  obtain ⟨rfl, b1⟩ := q1
  refine Can.conv (a' := (⟨#[v, .int .i64 n, .int .i64 i, undef, undef, undef, .bool false, undef, undef, undef, undef, undef, undef, undef, undef, undef, undef, undef, undef, undef, undef, undef, undef, undef, undef, undef, undef, .bool true, undef, undef, undef, undef, undef, undef, undef, undef, undef, undef, undef, undef, undef, undef, undef, undef, undef, undef, undef, undef, undef, undef, undef, undef, undef, undef, undef, undef, undef, undef, undef, undef, undef, undef, undef, undef, undef, undef, undef, undef, undef, undef, undef, undef, undef, undef, undef, undef, undef, undef, undef, undef, undef, undef, undef, undef, undef, undef, undef, undef, undef, undef, undef, undef, undef, undef, undef, undef, undef, undef, undef, undef, undef, undef, undef, undef, undef, undef, undef, undef, undef, undef, undef, undef, undef, undef, undef, undef, undef, undef, undef, undef, undef, undef, undef, undef, undef, undef, undef, undef, undef, undef, undef, undef, undef, undef, undef, undef, undef, undef, undef, undef, undef, undef, undef, undef, undef, undef, undef, undef, undef, undef, undef, undef, undef, undef, undef, undef, undef, undef, undef, undef, undef, undef, undef, undef, undef], []⟩ : Act)) (by kernel_rfl) ?_
  refine Can.pures (l := [1]) (rest := []) (a' := (⟨#[v, .int .i64 n, .int .i64 i, undef, undef, undef, .bool false, .bool true, undef, undef, undef, undef, undef, undef, undef, undef, undef, undef, undef, undef, undef, undef, undef, undef, undef, undef, undef, .bool true, undef, undef, undef, undef, undef, undef, undef, undef, undef, undef, undef, undef, undef, undef, undef, undef, undef, undef, undef, undef, undef, undef, undef, undef, undef, undef, undef, undef, undef, undef, undef, undef, undef, undef, undef, undef, undef, undef, undef, undef, undef, undef, undef, undef, undef, undef, undef, undef, undef, undef, undef, undef, undef, undef, undef, undef, undef, undef, undef, undef, undef, undef, undef, undef, undef, undef, undef, undef, undef, undef, undef, undef, undef, undef, undef, undef, undef, undef, undef, undef, undef, undef, undef, undef, undef, undef, undef, undef, undef, undef, undef, undef, undef, undef, undef, undef, undef, undef, undef, undef, undef, undef, undef, undef, undef, undef, undef, undef, undef, undef, undef, undef, undef, undef, undef, undef, undef, undef, undef, undef, undef, undef, undef, undef, undef, undef, undef, undef, undef, undef, undef, undef, undef, undef, undef, undef, undef], []⟩ : Act)) hk (by kernel_rfl) ?_
  refine Can.out ?_
  refine Can.seq (Can.into ?_)
  refine Can.pures (l := [0]) (rest := [1, 2, 3, 4, 5, 6, 7, 8]) (a' := (⟨#[v, .int .i64 n, .int .i64 i, undef, undef, undef, .bool false, .bool true, undef, undef, undef, undef, undef, undef, undef, undef, undef, undef, undef, undef, undef, undef, undef, undef, undef, undef, undef, .bool true, undef, v, undef, undef, undef, undef, undef, undef, undef, undef, undef, undef, undef, undef, undef, undef, undef, undef, undef, undef, undef, undef, undef, undef, undef, undef, undef, undef, undef, undef, undef, undef, undef, undef, undef, undef, undef, undef, undef, undef, undef, undef, undef, undef, undef, undef, undef, undef, undef, undef, undef, undef, undef, undef, undef, undef, undef, undef, undef, undef, undef, undef, undef, undef, undef, undef, undef, undef, undef, undef, undef, undef, undef, undef, undef, undef, undef, undef, undef, undef, undef, undef, undef, undef, undef, undef, undef, undef, undef, undef, undef, undef, undef, undef, undef, undef, undef, undef, undef, undef, undef, undef, undef, undef, undef, undef, undef, undef, undef, undef, undef, undef, undef, undef, undef, undef, undef, undef, undef, undef, undef, undef, undef, undef, undef, undef, undef, undef, undef, undef, undef, undef, undef, undef, undef, undef, undef], []⟩ : Act)) hk (by kernel_rfl) ?_
  have hv1 : StringsAt w1 v ps := by
    have : StringsAt (w1.tp w.tape) v ps := hv.below ⟨b1.os, rfl, b1.output, b1.size, b1.keep⟩
    exact this
  have hover : [v].toArray ++ Array.replicate (Try.f20.ntmps - [v].toArray.size) undef = ov (rolesOf [0, 15, 29, 32] [34]) (fun i => if i = 0 then v else undef) (Array.replicate 65 undef) := by kernel_rfl
  refine Can.callX (Fo := Fo) (rl := rolesOf [0, 15, 29, 32] [34]) (sv := fun i => if i = 0 then v else undef) (t0 := Array.replicate 65 undef) (o := r8_2[1]) (vs := [v]) (Q := fun x u => ∃ (B : Nat) (S o : Value), x = .tuple #[.pointer (some ⟨B, 0, none⟩), o, .bool true] ∧ LogAt u w1.heap.size B S (keptL ps) ∧ u.ownsRow w1.heap.size 9 1 o (keptL ps).length (strs8 (keptL ps)) ∧ Bel w1 u) hk rfl rfl rfl Try.func20 (by simp [Try.f20, names]) rfl (codeRB_ok (by kernel_rfl)) (fun r hr => ?_) (by rw [map1]; kernel_rfl) hover (fun x hx => ?_) sf1 (fun i => ⟨fun _ => ?_, fun hr => ?_⟩) ext1 (fun x u τ q => ?_) (fun τ => ?_) ?_
  · have : r = .tmp 2 ∨ r = .tmp 3 ∨ r = .tmp 4 := by simpa [Try.f20] using hr
    rcases this with rfl | rfl | rfl
    · exact ⟨2, rfl, rfl⟩
    · exact ⟨3, rfl, rfl⟩
    · exact ⟨4, rfl, rfl⟩
  · rw [Array.mem_replicate] at hx
    rw [hx.2]
    exact VR.undef
  · dsimp only
    split
    · exact hvs
    · exact .inl rfl
  · dsimp only
    split
    · rename_i h0
      subst h0
      exact absurd hr (by decide)
    · exact .inl rfl
  · obtain ⟨B, S, o, e1, e2, e3, e4⟩ := q
    exact ⟨B, S, o, e1, e2, e3, e4.tp τ⟩
  · exact (kept_any ps v (w1.tp τ) hv1 hn1 hn2).mono fun e u q => by
      obtain ⟨B, S, o, rfl, e2, e3, _, e4⟩ := q
      exact ⟨B, S, o, rfl, e2, e3, Bel.of e4⟩
  intro D2 x2 w2 d2 hx2 sf2 _ q2
  obtain ⟨B1, S1, o1, rfl, log1, row1, b2⟩ := q2
  refine Can.conv (a' := (⟨#[v, .int .i64 n, .int .i64 i, undef, undef, undef, .bool false, .bool true, undef, undef, undef, undef, undef, undef, undef, undef, undef, undef, undef, undef, undef, undef, undef, undef, undef, undef, undef, .bool true, undef, v, .tuple #[.pointer (some ⟨B1, 0, none⟩), o1, .bool true], undef, undef, undef, undef, undef, undef, undef, undef, undef, undef, undef, undef, undef, undef, undef, undef, undef, undef, undef, undef, undef, undef, undef, undef, undef, undef, undef, undef, undef, undef, undef, undef, undef, undef, undef, undef, undef, undef, undef, undef, undef, undef, undef, undef, undef, undef, undef, undef, undef, undef, undef, undef, undef, undef, undef, undef, undef, undef, undef, undef, undef, undef, undef, undef, undef, undef, undef, undef, undef, undef, undef, undef, undef, undef, undef, undef, undef, undef, undef, undef, undef, undef, undef, undef, undef, undef, undef, undef, undef, undef, undef, undef, undef, undef, undef, undef, undef, undef, undef, undef, undef, undef, undef, undef, undef, undef, undef, undef, undef, undef, undef, undef, undef, undef, undef, undef, undef, undef, undef, undef, undef, undef, undef, undef, undef, undef, undef, undef, undef, undef, undef, undef, undef, undef], []⟩ : Act)) (by kernel_rfl) ?_
  refine Can.pures (l := [2, 3, 4, 5, 6, 7, 8]) (rest := []) (a' := (⟨#[v, .int .i64 n, .int .i64 i, undef, undef, undef, .bool false, .bool true, .pointer (some ⟨B1, 0, none⟩), o1, .bool true, undef, undef, undef, undef, undef, undef, undef, undef, undef, undef, undef, undef, undef, undef, undef, undef, .bool true, .tuple #[.pointer (some ⟨B1, 0, none⟩), o1, .bool true], v, .tuple #[.pointer (some ⟨B1, 0, none⟩), o1, .bool true], .pointer (some ⟨B1, 0, none⟩), o1, .bool true, undef, undef, undef, undef, undef, undef, undef, undef, undef, undef, undef, undef, undef, undef, undef, undef, undef, undef, undef, undef, undef, undef, undef, undef, undef, undef, undef, undef, undef, undef, undef, undef, undef, undef, undef, undef, undef, undef, undef, undef, undef, undef, undef, undef, undef, undef, undef, undef, undef, undef, undef, undef, undef, undef, undef, undef, undef, undef, undef, undef, undef, undef, undef, undef, undef, undef, undef, undef, undef, undef, undef, undef, undef, undef, undef, undef, undef, undef, undef, undef, undef, undef, undef, undef, undef, undef, undef, undef, undef, undef, undef, undef, undef, undef, undef, undef, undef, undef, undef, undef, undef, undef, undef, undef, undef, undef, undef, undef, undef, undef, undef, undef, undef, undef, undef, undef, undef, undef, undef, undef, undef, undef, undef, undef, undef, undef, undef, undef, undef, undef, undef], []⟩ : Act)) hk (by kernel_rfl) ?_
  refine Can.out ?_
  refine Can.seq (Can.seq ?_)
  refine Can.region (a' := (⟨#[v, .int .i64 n, .int .i64 i, undef, undef, undef, .bool false, .bool true, .pointer (some ⟨B1, 0, none⟩), o1, .bool true, undef, undef, undef, undef, undef, undef, undef, undef, undef, undef, undef, undef, undef, undef, undef, undef, .bool true, .tuple #[.pointer (some ⟨B1, 0, none⟩), o1, .bool true], v, .tuple #[.pointer (some ⟨B1, 0, none⟩), o1, .bool true], .pointer (some ⟨B1, 0, none⟩), o1, .bool true, .bool true, .bool false, .bool false, .bool true, .bool false, .bool false, undef, undef, undef, undef, undef, undef, undef, undef, undef, undef, undef, undef, undef, undef, undef, undef, undef, undef, undef, undef, undef, undef, undef, undef, undef, undef, undef, undef, undef, undef, undef, undef, undef, undef, undef, undef, undef, undef, undef, undef, undef, undef, undef, undef, undef, undef, undef, undef, undef, undef, undef, undef, undef, undef, undef, undef, undef, undef, undef, undef, undef, undef, undef, undef, undef, undef, undef, undef, undef, undef, undef, undef, undef, undef, undef, undef, undef, undef, undef, undef, undef, undef, undef, undef, undef, undef, undef, undef, undef, undef, undef, undef, undef, undef, undef, undef, undef, undef, undef, undef, undef, undef, undef, undef, undef, undef, undef, undef, undef, undef, undef, undef, undef, undef, undef, undef, undef, undef, undef, undef, undef, undef, undef, undef, undef], []⟩ : Act)) hk (by kernel_rfl) ?_
  refine Can.cond (t := false) rfl (Can.skip ?_)
  obtain ⟨g1, cap1, hgo⟩ := own_shape row1 (by have := (keptL_len ps).1; omega)
  exact hK (fun b hb => d2 b (d1 b hb)) (hx2.tuple (i := 0) rfl) (hx2.tuple (i := 1) rfl) sf2 (b1.trans b2) log1 row1 hgo
end
end Go.Proofs.Ytlndinigbppafaa
