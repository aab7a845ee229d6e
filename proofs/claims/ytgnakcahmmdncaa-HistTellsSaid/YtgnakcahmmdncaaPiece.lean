/- A piece of a function's code, by its path (of a sequence 0 and 1, of a test 0 and 1, of a block or a loop 0). -/
import Derived.Test.YtgnakcahmmdncaaProg
namespace Go.Proofs.Ytgnakcahmmdncaa.base
open Go

def pc : List Nat → Code → Code
  | [], c => c
  | 0 :: p, .seq a _ => pc p a
  | _ :: p, .seq _ b => pc p b
  | 0 :: p, .cond _ a _ => pc p a
  | _ :: p, .cond _ _ b => pc p b
  | _ :: p, .block _ b => pc p b
  | _ :: p, .loop b => pc p b
  | _ :: p, .scope b => pc p b
  | _ :: _, c => c
def pcs (f : Func) (p : List Nat) : Code := pc p (f.body.getD .skip)
end Go.Proofs.Ytgnakcahmmdncaa.base
