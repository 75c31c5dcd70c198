/- Which methods the kinds have. -/
import Derived.Test.YtebhipicfgnajaaGreatMgb
namespace Go.Proofs.YtebhipicfgnajaaGreat
open Go.RowKit
theorem m_key_int (v : Value) (w : World) : (method 325 199 v "loop.example/g00252/impl.keyPart").run Tryz.prog w = .ok (216, v) w := by kernel_rfl
theorem m_key_float (v : Value) (w : World) : (method 325 200 v "loop.example/g00252/impl.keyPart").run Tryz.prog w = .ok (220, v) w := by kernel_rfl
theorem m_key_text (v : Value) (w : World) : (method 325 201 v "loop.example/g00252/impl.keyPart").run Tryz.prog w = .ok (223, v) w := by kernel_rfl
theorem m_val_int (v : Value) (w : World) : (method 325 199 v "loop.example/g00252/impl.valuePart").run Tryz.prog w = .ok (217, v) w := by kernel_rfl
theorem m_val_float (v : Value) (w : World) : (method 325 200 v "loop.example/g00252/impl.valuePart").run Tryz.prog w = .ok (221, v) w := by kernel_rfl
theorem m_val_text (v : Value) (w : World) : (method 325 201 v "loop.example/g00252/impl.valuePart").run Tryz.prog w = .ok (224, v) w := by kernel_rfl
end Go.Proofs.YtebhipicfgnajaaGreat
